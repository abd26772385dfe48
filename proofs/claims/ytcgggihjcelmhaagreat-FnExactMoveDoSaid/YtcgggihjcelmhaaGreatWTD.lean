/- The types of the typed machine. Made by program. -/
import Derived.Test.YtcgggihjcelmhaaGreatWT5
import Derived.Test.YtcgggihjcelmhaaGreatDE
import Derived.Test.YtcgggihjcelmhaaGreatProg
namespace Go.Proofs.YtcgggihjcelmhaaGreat
open Go.RowKit
set_option maxRecDepth 100000
set_option linter.all false
set_option maxHeartbeats 0
inductive TyK where
 |k3
 |k4
 |k5
 |k26
 |k29
 |k31
 |k39
 |k41
 |k62
 |k64
 |k65
 |k91
 |k94
 |k128
 |k141
 |k147
 |k168
 |k171
 |k178
 |k181
 |k211
 |k1039
 |k1041
 |k1094
 |k1128
 |k1168
 |k1171
 |k2026
 |k2029
 |k2062
 |k2064
def kk:Nat->TyK
 |3=> .k3
 |4=> .k4
 |5=> .k5
 |26=> .k26
 |29=> .k29
 |31=> .k31
 |39=> .k39
 |41=> .k41
 |62=> .k62
 |64=> .k64
 |65=> .k65
 |91=> .k91
 |94=> .k94
 |128=> .k128
 |141=> .k141
 |147=> .k147
 |168=> .k168
 |171=> .k171
 |178=> .k178
 |181=> .k181
 |211=> .k211
 |1039=> .k1039
 |1041=> .k1041
 |1094=> .k1094
 |1128=> .k1128
 |1168=> .k1168
 |1171=> .k1171
 |2026=> .k2026
 |2029=> .k2029
 |2062=> .k2062
 |2064=> .k2064
 |_=> .k3
def TyT:TyK->Type
 | .k3=>Int
 | .k4=>Bool
 | .k5=>Int
 | .k26=>DHost
 | .k29=>DMove
 | .k31=>DAct
 | .k39=>DCore
 | .k41=>DBare
 | .k62=>DHost
 | .k64=>DMove
 | .k65=>DAct
 | .k91=>DSlot
 | .k94=>DGuest
 | .k128=>Dl20Rd
 | .k141=>DIns
 | .k147=>DShade
 | .k168=>DCore
 | .k171=>DGuest
 | .k178=>DExit
 | .k181=>DEntry
 | .k211=>DSlot
 | .k1039=>DCore
 | .k1041=>DBare
 | .k1094=>DGuest
 | .k1128=>Dl20Rd
 | .k1168=>DCore
 | .k1171=>DGuest
 | .k2026=>DHost
 | .k2029=>DMove
 | .k2062=>DHost
 | .k2064=>DMove
@[reducible] def inK : ∀ k, Inhabited (TyT k)
 | .k3=>⟨(default:Int)⟩
 | .k4=>⟨(default:Bool)⟩
 | .k5=>⟨(default:Int)⟩
 | .k26=>⟨(default:DHost)⟩
 | .k29=>⟨(default:DMove)⟩
 | .k31=>⟨(default:DAct)⟩
 | .k39=>⟨(default:DCore)⟩
 | .k41=>⟨(default:DBare)⟩
 | .k62=>⟨(default:DHost)⟩
 | .k64=>⟨(default:DMove)⟩
 | .k65=>⟨(default:DAct)⟩
 | .k91=>⟨(default:DSlot)⟩
 | .k94=>⟨(default:DGuest)⟩
 | .k128=>⟨(default:Dl20Rd)⟩
 | .k141=>⟨(default:DIns)⟩
 | .k147=>⟨(default:DShade)⟩
 | .k168=>⟨(default:DCore)⟩
 | .k171=>⟨(default:DGuest)⟩
 | .k178=>⟨(default:DExit)⟩
 | .k181=>⟨(default:DEntry)⟩
 | .k211=>⟨(default:DSlot)⟩
 | .k1039=>⟨(default:DCore)⟩
 | .k1041=>⟨(default:DBare)⟩
 | .k1094=>⟨(default:DGuest)⟩
 | .k1128=>⟨(default:Dl20Rd)⟩
 | .k1168=>⟨(default:DCore)⟩
 | .k1171=>⟨(default:DGuest)⟩
 | .k2026=>⟨(default:DHost)⟩
 | .k2029=>⟨(default:DMove)⟩
 | .k2062=>⟨(default:DHost)⟩
 | .k2064=>⟨(default:DMove)⟩
def lfK:TyK->List Lf
 | .k3=>[.i .i64]
 | .k4=>[.b]
 | .k5=>[.i .u8]
 | .k26=>[.row 3,.row 94]
 | .k29=>[.row 3,.row 94,.row 3,.row 94,.i .i64,.i .i64,.row 4]
 | .k31=>[.i .i64,.i .i64]
 | .k39=>[.row 3,.i .i64,.i .i64,.i .i64,.i .i64,.b,.i .i64,.i .i64,.i .i64,.b,.b,.b,.b]
 | .k41=>[.row 3,.i .i64,.i .i64,.i .i64,.i .i64,.b,.i .i64,.i .i64,.i .i64,.b,.b,.b,.b,.row 3,.row 3,.row 3]
 | .k62=>[.row 3,.row 171]
 | .k64=>[.row 3,.row 171,.row 3,.row 171,.i .i64,.i .i64,.row 4]
 | .k65=>[.i .i64,.i .i64]
 | .k91=>[.i .i64,.b,.b]
 | .k94=>[.b,.row 3,.i .i64,.i .i64,.i .i64,.i .i64,.b,.i .i64,.i .i64,.i .i64,.b,.b,.b,.b,.row 91,.row 3,.row 3]
 | .k128=>[.row 5,.i .i64]
 | .k141=>[.i .i64,.i .i64,.i .i64]
 | .k147=>[.b,.b,.b,.i .i64,.i .i64,.b]
 | .k168=>[.row 3,.i .i64,.i .i64,.i .i64,.i .i64,.b,.i .i64,.i .i64,.i .i64,.b,.b,.b,.b]
 | .k171=>[.b,.row 3,.i .i64,.i .i64,.i .i64,.i .i64,.b,.i .i64,.i .i64,.i .i64,.b,.b,.b,.b,.row 211,.row 3,.row 3]
 | .k178=>[.i .i64,.i .i64,.i .i64,.i .i64,.i .i64]
 | .k181=>[.b,.b,.b,.i .i64]
 | .k211=>[.i .i64,.b,.b]
 | .k1039=>[.own 3,.i .i64,.i .i64,.i .i64,.i .i64,.b,.i .i64,.i .i64,.i .i64,.b,.b,.b,.b]
 | .k1041=>[.own 3,.i .i64,.i .i64,.i .i64,.i .i64,.b,.i .i64,.i .i64,.i .i64,.b,.b,.b,.b,.own 3,.own 3,.own 3]
 | .k1094=>[.b,.own 3,.i .i64,.i .i64,.i .i64,.i .i64,.b,.i .i64,.i .i64,.i .i64,.b,.b,.b,.b,.own 91,.own 3,.own 3]
 | .k1128=>[.own 5,.i .i64]
 | .k1168=>[.own 3,.i .i64,.i .i64,.i .i64,.i .i64,.b,.i .i64,.i .i64,.i .i64,.b,.b,.b,.b]
 | .k1171=>[.b,.own 3,.i .i64,.i .i64,.i .i64,.i .i64,.b,.i .i64,.i .i64,.i .i64,.b,.b,.b,.b,.own 211,.own 3,.own 3]
 | .k2026=>[.row 3,.row 1094]
 | .k2029=>[.row 3,.row 1094,.row 3,.row 1094,.i .i64,.i .i64,.row 4]
 | .k2062=>[.row 3,.row 1171]
 | .k2064=>[.row 3,.row 1171,.row 3,.row 1171,.i .i64,.i .i64,.row 4]
def unK:TyK->Nat
 | .k3=>3
 | .k4=>4
 | .k5=>5
 | .k26=>26
 | .k29=>29
 | .k31=>31
 | .k39=>39
 | .k41=>41
 | .k62=>62
 | .k64=>64
 | .k65=>65
 | .k91=>91
 | .k94=>94
 | .k128=>128
 | .k141=>141
 | .k147=>147
 | .k168=>168
 | .k171=>171
 | .k178=>178
 | .k181=>181
 | .k211=>211
 | .k1039=>39
 | .k1041=>41
 | .k1094=>94
 | .k1128=>128
 | .k1168=>168
 | .k1171=>171
 | .k2026=>26
 | .k2029=>29
 | .k2062=>62
 | .k2064=>64
theorem tuK:∀k,TyT k=TyT (kk (unK k))
 | .k3=>rfl
 | .k4=>rfl
 | .k5=>rfl
 | .k26=>rfl
 | .k29=>rfl
 | .k31=>rfl
 | .k39=>rfl
 | .k41=>rfl
 | .k62=>rfl
 | .k64=>rfl
 | .k65=>rfl
 | .k91=>rfl
 | .k94=>rfl
 | .k128=>rfl
 | .k141=>rfl
 | .k147=>rfl
 | .k168=>rfl
 | .k171=>rfl
 | .k178=>rfl
 | .k181=>rfl
 | .k211=>rfl
 | .k1039=>rfl
 | .k1041=>rfl
 | .k1094=>rfl
 | .k1128=>rfl
 | .k1168=>rfl
 | .k1171=>rfl
 | .k2026=>rfl
 | .k2029=>rfl
 | .k2062=>rfl
 | .k2064=>rfl
def plK:TyK->Bool
 | .k3=>true
 | .k4=>true
 | .k5=>true
 | .k26=>true
 | .k29=>true
 | .k31=>true
 | .k39=>true
 | .k41=>true
 | .k62=>true
 | .k64=>true
 | .k65=>true
 | .k91=>true
 | .k94=>true
 | .k128=>true
 | .k141=>true
 | .k147=>true
 | .k168=>true
 | .k171=>true
 | .k178=>true
 | .k181=>true
 | .k211=>true
 | .k1039=>false
 | .k1041=>false
 | .k1094=>false
 | .k1128=>false
 | .k1168=>false
 | .k1171=>false
 | .k2026=>false
 | .k2029=>false
 | .k2062=>false
 | .k2064=>false
def elK:TyK->Bool
 | .k3=>true
 | .k4=>true
 | .k5=>true
 | .k26=>true
 | .k29=>true
 | .k31=>true
 | .k39=>true
 | .k41=>true
 | .k62=>true
 | .k64=>true
 | .k65=>true
 | .k91=>true
 | .k94=>true
 | .k128=>true
 | .k141=>true
 | .k147=>true
 | .k168=>true
 | .k171=>true
 | .k178=>true
 | .k181=>true
 | .k211=>true
 | .k1039=>true
 | .k1041=>true
 | .k1094=>true
 | .k1128=>true
 | .k1168=>true
 | .k1171=>true
 | .k2026=>false
 | .k2029=>false
 | .k2062=>false
 | .k2064=>false
def tG:TS:=⟨λc=>TyT (kk c),λc=>inK (kk c),λc=>c%1000,λc=>lfK (kk c),λc=>unK (kk c),λc=>c+1000,λc=>tuK (kk c),λc=>plK (kk c),λc=>elK (kk c)⟩
def prK:∀k,TyT k->Tup tG (lfK k)
 | .k3,x=>(x:Int)
 | .k4,x=>(x:Bool)
 | .k5,x=>(x:Int)
 | .k26,x=>((x:DHost).Words,(x:DHost).Guests)
 | .k29,x=>((x:DMove).From.Words,(x:DMove).From.Guests,(x:DMove).To.Words,(x:DMove).To.Guests,(x:DMove).G,(x:DMove).N,(x:DMove).Left)
 | .k31,x=>((x:DAct).Kind,(x:DAct).Page)
 | .k39,x=>((x:DCore).Regs,(x:DCore).Pc,(x:DCore).Root,(x:DCore).Vector,(x:DCore).Saved,(x:DCore).SavedUser,(x:DCore).Cause,(x:DCore).Bad,(x:DCore).Timer,(x:DCore).Waits,(x:DCore).User,(x:DCore).On,(x:DCore).Stopped)
 | .k41,x=>((x:DBare).C.Regs,(x:DBare).C.Pc,(x:DBare).C.Root,(x:DBare).C.Vector,(x:DBare).C.Saved,(x:DBare).C.SavedUser,(x:DBare).C.Cause,(x:DBare).C.Bad,(x:DBare).C.Timer,(x:DBare).C.Waits,(x:DBare).C.User,(x:DBare).C.On,(x:DBare).C.Stopped,(x:DBare).Mem,(x:DBare).In,(x:DBare).Out)
 | .k62,x=>((x:DHost).Words,(x:DHost).Guests)
 | .k64,x=>((x:DMove).From.Words,(x:DMove).From.Guests,(x:DMove).To.Words,(x:DMove).To.Guests,(x:DMove).G,(x:DMove).N,(x:DMove).Left)
 | .k65,x=>((x:DAct).Kind,(x:DAct).Page)
 | .k91,x=>((x:DSlot).Frame,(x:DSlot).Write,(x:DSlot).Dirty)
 | .k94,x=>((x:DGuest).Live,(x:DGuest).C.Regs,(x:DGuest).C.Pc,(x:DGuest).C.Root,(x:DGuest).C.Vector,(x:DGuest).C.Saved,(x:DGuest).C.SavedUser,(x:DGuest).C.Cause,(x:DGuest).C.Bad,(x:DGuest).C.Timer,(x:DGuest).C.Waits,(x:DGuest).C.User,(x:DGuest).C.On,(x:DGuest).C.Stopped,(x:DGuest).Pages,(x:DGuest).In,(x:DGuest).Out)
 | .k128,x=>((x:Dl20Rd).b,(x:Dl20Rd).p)
 | .k141,x=>((x:DIns).Op,(x:DIns).A,(x:DIns).N)
 | .k147,x=>((x:DShade).There,(x:DShade).Write,(x:DShade).User,(x:DShade).Page,(x:DShade).Frame,(x:DShade).Ready)
 | .k168,x=>((x:DCore).Regs,(x:DCore).Pc,(x:DCore).Root,(x:DCore).Vector,(x:DCore).Saved,(x:DCore).SavedUser,(x:DCore).Cause,(x:DCore).Bad,(x:DCore).Timer,(x:DCore).Waits,(x:DCore).User,(x:DCore).On,(x:DCore).Stopped)
 | .k171,x=>((x:DGuest).Live,(x:DGuest).C.Regs,(x:DGuest).C.Pc,(x:DGuest).C.Root,(x:DGuest).C.Vector,(x:DGuest).C.Saved,(x:DGuest).C.SavedUser,(x:DGuest).C.Cause,(x:DGuest).C.Bad,(x:DGuest).C.Timer,(x:DGuest).C.Waits,(x:DGuest).C.User,(x:DGuest).C.On,(x:DGuest).C.Stopped,(x:DGuest).Pages,(x:DGuest).In,(x:DGuest).Out)
 | .k178,x=>((x:DExit).Why,(x:DExit).Page,(x:DExit).What.Op,(x:DExit).What.A,(x:DExit).What.N)
 | .k181,x=>((x:DEntry).There,(x:DEntry).Write,(x:DEntry).User,(x:DEntry).Page)
 | .k211,x=>((x:DSlot).Frame,(x:DSlot).Write,(x:DSlot).Dirty)
 | .k1039,x=>((x:DCore).Regs,(x:DCore).Pc,(x:DCore).Root,(x:DCore).Vector,(x:DCore).Saved,(x:DCore).SavedUser,(x:DCore).Cause,(x:DCore).Bad,(x:DCore).Timer,(x:DCore).Waits,(x:DCore).User,(x:DCore).On,(x:DCore).Stopped)
 | .k1041,x=>((x:DBare).C.Regs,(x:DBare).C.Pc,(x:DBare).C.Root,(x:DBare).C.Vector,(x:DBare).C.Saved,(x:DBare).C.SavedUser,(x:DBare).C.Cause,(x:DBare).C.Bad,(x:DBare).C.Timer,(x:DBare).C.Waits,(x:DBare).C.User,(x:DBare).C.On,(x:DBare).C.Stopped,(x:DBare).Mem,(x:DBare).In,(x:DBare).Out)
 | .k1094,x=>((x:DGuest).Live,(x:DGuest).C.Regs,(x:DGuest).C.Pc,(x:DGuest).C.Root,(x:DGuest).C.Vector,(x:DGuest).C.Saved,(x:DGuest).C.SavedUser,(x:DGuest).C.Cause,(x:DGuest).C.Bad,(x:DGuest).C.Timer,(x:DGuest).C.Waits,(x:DGuest).C.User,(x:DGuest).C.On,(x:DGuest).C.Stopped,(x:DGuest).Pages,(x:DGuest).In,(x:DGuest).Out)
 | .k1128,x=>((x:Dl20Rd).b,(x:Dl20Rd).p)
 | .k1168,x=>((x:DCore).Regs,(x:DCore).Pc,(x:DCore).Root,(x:DCore).Vector,(x:DCore).Saved,(x:DCore).SavedUser,(x:DCore).Cause,(x:DCore).Bad,(x:DCore).Timer,(x:DCore).Waits,(x:DCore).User,(x:DCore).On,(x:DCore).Stopped)
 | .k1171,x=>((x:DGuest).Live,(x:DGuest).C.Regs,(x:DGuest).C.Pc,(x:DGuest).C.Root,(x:DGuest).C.Vector,(x:DGuest).C.Saved,(x:DGuest).C.SavedUser,(x:DGuest).C.Cause,(x:DGuest).C.Bad,(x:DGuest).C.Timer,(x:DGuest).C.Waits,(x:DGuest).C.User,(x:DGuest).C.On,(x:DGuest).C.Stopped,(x:DGuest).Pages,(x:DGuest).In,(x:DGuest).Out)
 | .k2026,x=>((x:DHost).Words,(x:DHost).Guests)
 | .k2029,x=>((x:DMove).From.Words,(x:DMove).From.Guests,(x:DMove).To.Words,(x:DMove).To.Guests,(x:DMove).G,(x:DMove).N,(x:DMove).Left)
 | .k2062,x=>((x:DHost).Words,(x:DHost).Guests)
 | .k2064,x=>((x:DMove).From.Words,(x:DMove).From.Guests,(x:DMove).To.Words,(x:DMove).To.Guests,(x:DMove).G,(x:DMove).N,(x:DMove).Left)
def mkK:∀k,Tup tG (lfK k)->TyT k
 | .k3,a0=>a0
 | .k4,a0=>a0
 | .k5,a0=>a0
 | .k26,(a0,a1)=>(DHost.mk a0 a1)
 | .k29,(a0,a1,a2,a3,a4,a5,a6)=>(DMove.mk (DHost.mk a0 a1) (DHost.mk a2 a3) a4 a5 a6)
 | .k31,(a0,a1)=>(DAct.mk a0 a1)
 | .k39,(a0,a1,a2,a3,a4,a5,a6,a7,a8,a9,a10,a11,a12)=>(DCore.mk a0 a1 a2 a3 a4 a5 a6 a7 a8 a9 a10 a11 a12)
 | .k41,(a0,a1,a2,a3,a4,a5,a6,a7,a8,a9,a10,a11,a12,a13,a14,a15)=>(DBare.mk (DCore.mk a0 a1 a2 a3 a4 a5 a6 a7 a8 a9 a10 a11 a12) a13 a14 a15)
 | .k62,(a0,a1)=>(DHost.mk a0 a1)
 | .k64,(a0,a1,a2,a3,a4,a5,a6)=>(DMove.mk (DHost.mk a0 a1) (DHost.mk a2 a3) a4 a5 a6)
 | .k65,(a0,a1)=>(DAct.mk a0 a1)
 | .k91,(a0,a1,a2)=>(DSlot.mk a0 a1 a2)
 | .k94,(a0,a1,a2,a3,a4,a5,a6,a7,a8,a9,a10,a11,a12,a13,a14,a15,a16)=>(DGuest.mk a0 (DCore.mk a1 a2 a3 a4 a5 a6 a7 a8 a9 a10 a11 a12 a13) a14 a15 a16)
 | .k128,(a0,a1)=>(Dl20Rd.mk a0 a1)
 | .k141,(a0,a1,a2)=>(DIns.mk a0 a1 a2)
 | .k147,(a0,a1,a2,a3,a4,a5)=>(DShade.mk a0 a1 a2 a3 a4 a5)
 | .k168,(a0,a1,a2,a3,a4,a5,a6,a7,a8,a9,a10,a11,a12)=>(DCore.mk a0 a1 a2 a3 a4 a5 a6 a7 a8 a9 a10 a11 a12)
 | .k171,(a0,a1,a2,a3,a4,a5,a6,a7,a8,a9,a10,a11,a12,a13,a14,a15,a16)=>(DGuest.mk a0 (DCore.mk a1 a2 a3 a4 a5 a6 a7 a8 a9 a10 a11 a12 a13) a14 a15 a16)
 | .k178,(a0,a1,a2,a3,a4)=>(DExit.mk a0 a1 (DIns.mk a2 a3 a4))
 | .k181,(a0,a1,a2,a3)=>(DEntry.mk a0 a1 a2 a3)
 | .k211,(a0,a1,a2)=>(DSlot.mk a0 a1 a2)
 | .k1039,(a0,a1,a2,a3,a4,a5,a6,a7,a8,a9,a10,a11,a12)=>(DCore.mk a0 a1 a2 a3 a4 a5 a6 a7 a8 a9 a10 a11 a12)
 | .k1041,(a0,a1,a2,a3,a4,a5,a6,a7,a8,a9,a10,a11,a12,a13,a14,a15)=>(DBare.mk (DCore.mk a0 a1 a2 a3 a4 a5 a6 a7 a8 a9 a10 a11 a12) a13 a14 a15)
 | .k1094,(a0,a1,a2,a3,a4,a5,a6,a7,a8,a9,a10,a11,a12,a13,a14,a15,a16)=>(DGuest.mk a0 (DCore.mk a1 a2 a3 a4 a5 a6 a7 a8 a9 a10 a11 a12 a13) a14 a15 a16)
 | .k1128,(a0,a1)=>(Dl20Rd.mk a0 a1)
 | .k1168,(a0,a1,a2,a3,a4,a5,a6,a7,a8,a9,a10,a11,a12)=>(DCore.mk a0 a1 a2 a3 a4 a5 a6 a7 a8 a9 a10 a11 a12)
 | .k1171,(a0,a1,a2,a3,a4,a5,a6,a7,a8,a9,a10,a11,a12,a13,a14,a15,a16)=>(DGuest.mk a0 (DCore.mk a1 a2 a3 a4 a5 a6 a7 a8 a9 a10 a11 a12 a13) a14 a15 a16)
 | .k2026,(a0,a1)=>(DHost.mk a0 a1)
 | .k2029,(a0,a1,a2,a3,a4,a5,a6)=>(DMove.mk (DHost.mk a0 a1) (DHost.mk a2 a3) a4 a5 a6)
 | .k2062,(a0,a1)=>(DHost.mk a0 a1)
 | .k2064,(a0,a1,a2,a3,a4,a5,a6)=>(DMove.mk (DHost.mk a0 a1) (DHost.mk a2 a3) a4 a5 a6)
def bPf(x:DHost):List AV:=[.bor (List.length x.Words) (fl (eI .i64) x.Words),.bor (List.length x.Guests) (fl bE x.Guests)]
theorem bUq:∀x,aH (bPf x)=true:=λx=>by simp only[bPf,aH,AV.noRef,Bool.and_self,aC aX,aC cJ]
def bRi(x:DMove):List AV:=[.bor (List.length x.From.Words) (fl (eI .i64) x.From.Words),.bor (List.length x.From.Guests) (fl bE x.From.Guests),.bor (List.length x.To.Words) (fl (eI .i64) x.To.Words),.bor (List.length x.To.Guests) (fl bE x.To.Guests),.int .i64 x.G,.int .i64 x.N,.bor (List.length x.Left) (fl eB x.Left)]
theorem bSx:∀x,aH (bRi x)=true:=λx=>by simp only[bRi,aH,AV.noRef,Bool.and_self,aC aX,aC cJ,aC mH]
def bQa(x:DHost):List AV:=[.bor (List.length x.Words) (fl (eI .i64) x.Words),.bor (List.length x.Guests) (fl xP x.Guests)]
theorem bTo:∀x,aH (bQa x)=true:=λx=>by simp only[bQa,aH,AV.noRef,Bool.and_self,aC aX,aC wU]
def bOn(x:DMove):List AV:=[.bor (List.length x.From.Words) (fl (eI .i64) x.From.Words),.bor (List.length x.From.Guests) (fl xP x.From.Guests),.bor (List.length x.To.Words) (fl (eI .i64) x.To.Words),.bor (List.length x.To.Guests) (fl xP x.To.Guests),.int .i64 x.G,.int .i64 x.N,.bor (List.length x.Left) (fl eB x.Left)]
theorem bTf:∀x,aH (bOn x)=true:=λx=>by simp only[bOn,aH,AV.noRef,Bool.and_self,aC aX,aC wU,aC mH]
def avK:∀k,TyT k->List AV
 | .k3=>eI .i64
 | .k4=>eB
 | .k5=>eI .u8
 | .k26=>mI
 | .k29=>yQ
 | .k31=>dS
 | .k39=>aAx
 | .k41=>aKn
 | .k62=>aNu
 | .k64=>nM
 | .k65=>aKj
 | .k91=>eY
 | .k94=>dC
 | .k128=>aCq
 | .k141=>aLj
 | .k147=>aKx
 | .k168=>aCd
 | .k171=>iR
 | .k178=>aLe
 | .k181=>aLl
 | .k211=>uG
 | .k1039=>aPr
 | .k1041=>aPg
 | .k1094=>bE
 | .k1128=>aGz
 | .k1168=>aEv
 | .k1171=>xP
 | .k2026=>bPf
 | .k2029=>bRi
 | .k2062=>bQa
 | .k2064=>bOn
theorem clK:∀k x,plK k=true->aT (avK k x)=true
 | .k3,x,_=>bJ x
 | .k4,x,_=>kV x
 | .k5,x,_=>bJ x
 | .k26,x,_=>zY x
 | .k29,x,_=>aTm x
 | .k31,x,_=>aLa x
 | .k39,x,_=>aUb x
 | .k41,x,_=>aTe x
 | .k62,x,_=>aUu x
 | .k64,x,_=>aKu x
 | .k65,x,_=>aUk x
 | .k91,x,_=>aEa x
 | .k94,x,_=>aEo x
 | .k128,x,_=>aPk x
 | .k141,x,_=>aPh x
 | .k147,x,_=>aPv x
 | .k168,x,_=>aPe x
 | .k171,x,_=>wR x
 | .k178,x,_=>aOd x
 | .k181,x,_=>aNv x
 | .k211,x,_=>aBq x
 | .k1039,_,h=>by cases h
 | .k1041,_,h=>by cases h
 | .k1094,_,h=>by cases h
 | .k1128,_,h=>by cases h
 | .k1168,_,h=>by cases h
 | .k1171,_,h=>by cases h
 | .k2026,_,h=>by cases h
 | .k2029,_,h=>by cases h
 | .k2062,_,h=>by cases h
 | .k2064,_,h=>by cases h
theorem nrK:∀k x,aH (avK k x)=true
 | .k3,x=>aX x
 | .k4,x=>mH x
 | .k5,x=>aX x
 | .k26,x=>aLm x
 | .k29,x=>aLh x
 | .k31,x=>aLv x
 | .k39,x=>aLw x
 | .k41,x=>aKy x
 | .k62,x=>aLc x
 | .k64,x=>aLn x
 | .k65,x=>aKr x
 | .k91,x=>gU x
 | .k94,x=>aAb x
 | .k128,x=>aFy x
 | .k141,x=>aGn x
 | .k147,x=>aFz x
 | .k168,x=>aFh x
 | .k171,x=>xI x
 | .k178,x=>aGe x
 | .k181,x=>aGg x
 | .k211,x=>wX x
 | .k1039,x=>aLg x
 | .k1041,x=>aLt x
 | .k1094,x=>cJ x
 | .k1128,x=>aFd x
 | .k1168,x=>aGx x
 | .k1171,x=>wU x
 | .k2026,x=>bUq x
 | .k2029,x=>bSx x
 | .k2062,x=>bTo x
 | .k2064,x=>bTf x
theorem cCg:∀k,plK k=true->(lfK k).all (plL tG)=true
 | .k3,_=>rfl
 | .k4,_=>rfl
 | .k5,_=>rfl
 | .k26,_=>rfl
 | .k29,_=>rfl
 | .k31,_=>rfl
 | .k39,_=>rfl
 | .k41,_=>rfl
 | .k62,_=>rfl
 | .k64,_=>rfl
 | .k65,_=>rfl
 | .k91,_=>rfl
 | .k94,_=>rfl
 | .k128,_=>rfl
 | .k141,_=>rfl
 | .k147,_=>rfl
 | .k168,_=>rfl
 | .k171,_=>rfl
 | .k178,_=>rfl
 | .k181,_=>rfl
 | .k211,_=>rfl
 | .k1039,h=>by cases h
 | .k1041,h=>by cases h
 | .k1094,h=>by cases h
 | .k1128,h=>by cases h
 | .k1168,h=>by cases h
 | .k1171,h=>by cases h
 | .k2026,h=>by cases h
 | .k2029,h=>by cases h
 | .k2062,h=>by cases h
 | .k2064,h=>by cases h
theorem cBn:∀k,elK k=true->(lfK k).all (elL tG)=true
 | .k3,_=>rfl
 | .k4,_=>rfl
 | .k5,_=>rfl
 | .k26,_=>rfl
 | .k29,_=>rfl
 | .k31,_=>rfl
 | .k39,_=>rfl
 | .k41,_=>rfl
 | .k62,_=>rfl
 | .k64,_=>rfl
 | .k65,_=>rfl
 | .k91,_=>rfl
 | .k94,_=>rfl
 | .k128,_=>rfl
 | .k141,_=>rfl
 | .k147,_=>rfl
 | .k168,_=>rfl
 | .k171,_=>rfl
 | .k178,_=>rfl
 | .k181,_=>rfl
 | .k211,_=>rfl
 | .k1039,_=>rfl
 | .k1041,_=>rfl
 | .k1094,_=>rfl
 | .k1128,_=>rfl
 | .k1168,_=>rfl
 | .k1171,_=>rfl
 | .k2026,h=>by cases h
 | .k2029,h=>by cases h
 | .k2062,h=>by cases h
 | .k2064,h=>by cases h
theorem cDs:∀k,elK k=true->plK (kk (unK k))=true
 | .k3,_=>rfl
 | .k4,_=>rfl
 | .k5,_=>rfl
 | .k26,_=>rfl
 | .k29,_=>rfl
 | .k31,_=>rfl
 | .k39,_=>rfl
 | .k41,_=>rfl
 | .k62,_=>rfl
 | .k64,_=>rfl
 | .k65,_=>rfl
 | .k91,_=>rfl
 | .k94,_=>rfl
 | .k128,_=>rfl
 | .k141,_=>rfl
 | .k147,_=>rfl
 | .k168,_=>rfl
 | .k171,_=>rfl
 | .k178,_=>rfl
 | .k181,_=>rfl
 | .k211,_=>rfl
 | .k1039,_=>rfl
 | .k1041,_=>rfl
 | .k1094,_=>rfl
 | .k1128,_=>rfl
 | .k1168,_=>rfl
 | .k1171,_=>rfl
 | .k2026,h=>by cases h
 | .k2029,h=>by cases h
 | .k2062,h=>by cases h
 | .k2064,h=>by cases h
theorem thK:∀k x,elK k=true->(avK k x).map AV.thaw=avK (kk (unK k)) (cast (tuK k) x)
 | .k3,x,_=>by kernel_rfl
 | .k4,x,_=>by kernel_rfl
 | .k5,x,_=>by kernel_rfl
 | .k26,x,_=>by kernel_rfl
 | .k29,x,_=>by kernel_rfl
 | .k31,x,_=>by kernel_rfl
 | .k39,x,_=>by kernel_rfl
 | .k41,x,_=>by kernel_rfl
 | .k62,x,_=>by kernel_rfl
 | .k64,x,_=>by kernel_rfl
 | .k65,x,_=>by kernel_rfl
 | .k91,x,_=>by kernel_rfl
 | .k94,x,_=>by kernel_rfl
 | .k128,x,_=>by kernel_rfl
 | .k141,x,_=>by kernel_rfl
 | .k147,x,_=>by kernel_rfl
 | .k168,x,_=>by kernel_rfl
 | .k171,x,_=>by kernel_rfl
 | .k178,x,_=>by kernel_rfl
 | .k181,x,_=>by kernel_rfl
 | .k211,x,_=>by kernel_rfl
 | .k1039,x,_=>by kernel_rfl
 | .k1041,x,_=>by kernel_rfl
 | .k1094,x,_=>by kernel_rfl
 | .k1128,x,_=>by kernel_rfl
 | .k1168,x,_=>by kernel_rfl
 | .k1171,x,_=>by kernel_rfl
 | .k2026,_,h=>by cases h
 | .k2029,_,h=>by cases h
 | .k2062,_,h=>by cases h
 | .k2064,_,h=>by cases h
theorem shK:∀k x,elK k=true->Shal (avK k x)
 | .k3,x,_=>hT (bL x)
 | .k4,x,_=>hT (pL x)
 | .k5,x,_=>hT (bL x)
 | .k26,x,_=>hT (bFq x)
 | .k29,x,_=>hT (bEb x)
 | .k31,x,_=>hT (bEp x)
 | .k39,x,_=>hT (bGl x)
 | .k41,x,_=>hT (bDz x)
 | .k62,x,_=>hT (bGj x)
 | .k64,x,_=>hT (bFt x)
 | .k65,x,_=>hT (bFr x)
 | .k91,x,_=>hT (aLb x)
 | .k94,x,_=>hT (bFp x)
 | .k128,x,_=>hT (bAq x)
 | .k141,x,_=>hT (bCj x)
 | .k147,x,_=>hT (bBy x)
 | .k168,x,_=>hT (bAj x)
 | .k171,x,_=>hT (aYn x)
 | .k178,x,_=>hT (bCb x)
 | .k181,x,_=>hT (aYw x)
 | .k211,x,_=>hT (aFk x)
 | .k1039,x,_=>bTa x
 | .k1041,x,_=>bUo x
 | .k1094,x,_=>bUt x
 | .k1128,x,_=>bSg x
 | .k1168,x,_=>bQj x
 | .k1171,x,_=>bQt x
 | .k2026,_,h=>by cases h
 | .k2029,_,h=>by cases h
 | .k2062,_,h=>by cases h
 | .k2064,_,h=>by cases h
theorem ckK{a b:Prop}(h:a)(e:a=b:=by kernel_rfl):b:=e▸h
theorem cAm:∀k,elK k=true->oI (avK k) (λx=>avK (kk (unK k)) (cast (tuK k) x))
 | .k3,_=>ckK (fI (c:=eI .i64) bL bJ)
 | .k4,_=>ckK (fI (c:=eB) pL kV)
 | .k5,_=>ckK (fI (c:=eI .u8) bL bJ)
 | .k26,_=>ckK (fI (c:=mI) bFq zY)
 | .k29,_=>ckK (fI (c:=yQ) bEb aTm)
 | .k31,_=>ckK (fI (c:=dS) bEp aLa)
 | .k39,_=>ckK (fI (c:=aAx) bGl aUb)
 | .k41,_=>ckK (fI (c:=aKn) bDz aTe)
 | .k62,_=>ckK (fI (c:=aNu) bGj aUu)
 | .k64,_=>ckK (fI (c:=nM) bFt aKu)
 | .k65,_=>ckK (fI (c:=aKj) bFr aUk)
 | .k91,_=>ckK (fI (c:=eY) aLb aEa)
 | .k94,_=>ckK (fI (c:=dC) bFp aEo)
 | .k128,_=>ckK (fI (c:=aCq) bAq aPk)
 | .k141,_=>ckK (fI (c:=aLj) bCj aPh)
 | .k147,_=>ckK (fI (c:=aKx) bBy aPv)
 | .k168,_=>ckK (fI (c:=aCd) bAj aPe)
 | .k171,_=>ckK (fI (c:=iR) aYn wR)
 | .k178,_=>ckK (fI (c:=aLe) bCb aOd)
 | .k181,_=>ckK (fI (c:=aLl) aYw aNv)
 | .k211,_=>ckK (fI (c:=uG) aFk aBq)
 | .k1039,_=>ckK bTi
 | .k1041,_=>ckK bTq
 | .k1094,_=>ckK cS
 | .k1128,_=>ckK bPi
 | .k1168,_=>ckK bOf
 | .k1171,_=>ckK bOs
 | .k2026,h=>by cases h
 | .k2029,h=>by cases h
 | .k2062,h=>by cases h
 | .k2064,h=>by cases h
def tG1:TS1:=⟨tG,λc=>prK (kk c),λc=>mkK (kk c),λc=>avK (kk c)⟩
theorem cDe:∀k x,avK k x=trs tG1 (cD tG (lfK k) (prK k x))
 | .k3,x=>by kernel_rfl
 | .k4,x=>by kernel_rfl
 | .k5,x=>by kernel_rfl
 | .k26,x=>by kernel_rfl
 | .k29,x=>by kernel_rfl
 | .k31,x=>by kernel_rfl
 | .k39,x=>by kernel_rfl
 | .k41,x=>by kernel_rfl
 | .k62,x=>by kernel_rfl
 | .k64,x=>by kernel_rfl
 | .k65,x=>by kernel_rfl
 | .k91,x=>by kernel_rfl
 | .k94,x=>by kernel_rfl
 | .k128,x=>by kernel_rfl
 | .k141,x=>by kernel_rfl
 | .k147,x=>by kernel_rfl
 | .k168,x=>by kernel_rfl
 | .k171,x=>by kernel_rfl
 | .k178,x=>by kernel_rfl
 | .k181,x=>by kernel_rfl
 | .k211,x=>by kernel_rfl
 | .k1039,x=>by kernel_rfl
 | .k1041,x=>by kernel_rfl
 | .k1094,x=>by kernel_rfl
 | .k1128,x=>by kernel_rfl
 | .k1168,x=>by kernel_rfl
 | .k1171,x=>by kernel_rfl
 | .k2026,x=>by kernel_rfl
 | .k2029,x=>by kernel_rfl
 | .k2062,x=>by kernel_rfl
 | .k2064,x=>by kernel_rfl
theorem cDp:∀k t,prK k (mkK k t)=t
 | .k3,t=>by kernel_rfl
 | .k4,t=>by kernel_rfl
 | .k5,t=>by kernel_rfl
 | .k26,t=>by kernel_rfl
 | .k29,t=>by kernel_rfl
 | .k31,t=>by kernel_rfl
 | .k39,t=>by kernel_rfl
 | .k41,t=>by kernel_rfl
 | .k62,t=>by kernel_rfl
 | .k64,t=>by kernel_rfl
 | .k65,t=>by kernel_rfl
 | .k91,t=>by kernel_rfl
 | .k94,t=>by kernel_rfl
 | .k128,t=>by kernel_rfl
 | .k141,t=>by kernel_rfl
 | .k147,t=>by kernel_rfl
 | .k168,t=>by kernel_rfl
 | .k171,t=>by kernel_rfl
 | .k178,t=>by kernel_rfl
 | .k181,t=>by kernel_rfl
 | .k211,t=>by kernel_rfl
 | .k1039,t=>by kernel_rfl
 | .k1041,t=>by kernel_rfl
 | .k1094,t=>by kernel_rfl
 | .k1128,t=>by kernel_rfl
 | .k1168,t=>by kernel_rfl
 | .k1171,t=>by kernel_rfl
 | .k2026,t=>by kernel_rfl
 | .k2029,t=>by kernel_rfl
 | .k2062,t=>by kernel_rfl
 | .k2064,t=>by kernel_rfl
theorem cDn:∀k,0<(lfK k).length
 | .k3=>by decide
 | .k4=>by decide
 | .k5=>by decide
 | .k26=>by decide
 | .k29=>by decide
 | .k31=>by decide
 | .k39=>by decide
 | .k41=>by decide
 | .k62=>by decide
 | .k64=>by decide
 | .k65=>by decide
 | .k91=>by decide
 | .k94=>by decide
 | .k128=>by decide
 | .k141=>by decide
 | .k147=>by decide
 | .k168=>by decide
 | .k171=>by decide
 | .k178=>by decide
 | .k181=>by decide
 | .k211=>by decide
 | .k1039=>by decide
 | .k1041=>by decide
 | .k1094=>by decide
 | .k1128=>by decide
 | .k1168=>by decide
 | .k1171=>by decide
 | .k2026=>by decide
 | .k2029=>by decide
 | .k2062=>by decide
 | .k2064=>by decide
def tS:TS2:=⟨tG1,λc x=>cDe (kk c) x,λc t=>cDp (kk c) t,λc=>cDn (kk c),λc x=>clK (kk c) x,λc x=>nrK (kk c) x,λc=>cCg (kk c),λc=>cBn (kk c),λc x=>thK (kk c) x,λc x=>shK (kk c) x,λc=>cAm (kk c),λc=>cDs (kk c)⟩
abbrev Sok(f:Nat)(g:Sg tG):Prop:=SgP tG1 Tryz.prog f (avR tG1 g.r) g.ps [] g.F
abbrev Sjk(f:Nat)(g:Sw tG):Prop:=SjP tG1 Tryz.prog f g.r g.qs g.qs [] TH.emp 0 g.F
def cxL(l:List (Nat×Sx tG)):Ctx tG:=λk=>match l with
 |[]=>none
 |(f,s)::l=>match Nat.beq f k with|true=>some s|false=>cxL l k
def CxP:List (Nat×Sx tG)->Prop
 |[]=>True
 |(f,s)::l=>bVv tG1 Tryz.prog f s/\CxP l
theorem bBa:∀{l:List (Nat×Sx tG)},CxP l->rS tG1 Tryz.prog (cxL l)
 |[],_=>λf s h=>by simp only[cxL]at h;cases h
 |(f0,s0)::l,hl=>λf s h=>by simp only[cxL]at h;split at h;{rename_i e;have:=Nat.eq_of_beq_eq_true e;subst this;cases h;exact hl.1};{exact bBa hl.2 f s h}
theorem sgx{f:Nat}{g:Sg tG}(l:List (Nat×Sx tG))(hl:CxP l)(A:An)(h:bHu tG1 (cxL l) (yX Tryz.prog f) A g.r g.ps [] 0=g.F)(h1:(kM Tryz.prog f).isSome=true)(h2:(Nat.ble g.ps.length (yX Tryz.prog f).ntmps&&wfR tG g.r&&g.ps.all (wfA tG))=true):Sok f g:=sg (τ:=tS) (bBa hl) f A g.r g.ps g.F h h1 h2
theorem sgy{f:Nat}{g:Sw tG}(l:List (Nat×Sx tG))(hl:CxP l)(A:An)(h:bHs tG1 (cxL l) (yX Tryz.prog f) A g.r g.qs g.qs [] TH.emp 0 0=g.F)(h1:(kM Tryz.prog f).isSome=true)(h2:(Nat.ble g.qs.length (yX Tryz.prog f).ntmps&&wfR tG g.r&&g.qs.all (wfQ tG))=true):Sjk f g:=sgw (τ:=tS) (bBa hl) f A g.r g.qs g.F h h1 h2
theorem kc{a b:Prop}(h:a)(e:a=b:=by kernel_rfl):b:=e▸h
end Go.Proofs.YtcgggihjcelmhaaGreat
