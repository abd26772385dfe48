/- The types of the typed machine. Made by program. -/
import Derived.Test.YtcgggihjcelmhaaGreatWT5
import Derived.Test.YtcgggihjcelmhaaGreatDE
import Derived.Test.YtcgggihjcelmhaaGreatProg
namespace Go.Proofs.YtcgggihjcelmhaaGreat
open List renaming length → x9
open Bool renaming and_self → d8
open Go.RowKit
set_option maxRecDepth 100000
set_option linter.all false
set_option maxHeartbeats 0
inductive TyK where
 |k3
 |k4
 |k5
 |k26
 |k29
 |k31
 |k39
 |k41
 |k62
 |k64
 |k65
 |k91
 |k94
 |k128
 |k141
 |k147
 |k168
 |k171
 |k178
 |k181
 |k211
 |k1039
 |k1041
 |k1094
 |k1128
 |k1168
 |k1171
 |k2026
 |k2029
 |k2062
 |k2064
def kk:Nat->TyK
 |3=> .k3
 |4=> .k4
 |5=> .k5
 |26=> .k26
 |29=> .k29
 |31=> .k31
 |39=> .k39
 |41=> .k41
 |62=> .k62
 |64=> .k64
 |65=> .k65
 |91=> .k91
 |94=> .k94
 |128=> .k128
 |141=> .k141
 |147=> .k147
 |168=> .k168
 |171=> .k171
 |178=> .k178
 |181=> .k181
 |211=> .k211
 |1039=> .k1039
 |1041=> .k1041
 |1094=> .k1094
 |1128=> .k1128
 |1168=> .k1168
 |1171=> .k1171
 |2026=> .k2026
 |2029=> .k2029
 |2062=> .k2062
 |2064=> .k2064
 |_=> .k3
def TyT:TyK->Type
 | .k3=>Int
 | .k4=>Bool
 | .k5=>Int
 | .k26=>DHost
 | .k29=>DMove
 | .k31=>DAct
 | .k39=>DCore
 | .k41=>DBare
 | .k62=>DHost
 | .k64=>DMove
 | .k65=>DAct
 | .k91=>DSlot
 | .k94=>DGuest
 | .k128=>Dl20Rd
 | .k141=>DIns
 | .k147=>DShade
 | .k168=>DCore
 | .k171=>DGuest
 | .k178=>DExit
 | .k181=>DEntry
 | .k211=>DSlot
 | .k1039=>DCore
 | .k1041=>DBare
 | .k1094=>DGuest
 | .k1128=>Dl20Rd
 | .k1168=>DCore
 | .k1171=>DGuest
 | .k2026=>DHost
 | .k2029=>DMove
 | .k2062=>DHost
 | .k2064=>DMove
@[reducible] def inK : ∀ k, Inhabited (TyT k)
 | .k3=>⟨(default:Int)⟩
 | .k4=>⟨(default:Bool)⟩
 | .k5=>⟨(default:Int)⟩
 | .k26=>⟨(default:DHost)⟩
 | .k29=>⟨(default:DMove)⟩
 | .k31=>⟨(default:DAct)⟩
 | .k39=>⟨(default:DCore)⟩
 | .k41=>⟨(default:DBare)⟩
 | .k62=>⟨(default:DHost)⟩
 | .k64=>⟨(default:DMove)⟩
 | .k65=>⟨(default:DAct)⟩
 | .k91=>⟨(default:DSlot)⟩
 | .k94=>⟨(default:DGuest)⟩
 | .k128=>⟨(default:Dl20Rd)⟩
 | .k141=>⟨(default:DIns)⟩
 | .k147=>⟨(default:DShade)⟩
 | .k168=>⟨(default:DCore)⟩
 | .k171=>⟨(default:DGuest)⟩
 | .k178=>⟨(default:DExit)⟩
 | .k181=>⟨(default:DEntry)⟩
 | .k211=>⟨(default:DSlot)⟩
 | .k1039=>⟨(default:DCore)⟩
 | .k1041=>⟨(default:DBare)⟩
 | .k1094=>⟨(default:DGuest)⟩
 | .k1128=>⟨(default:Dl20Rd)⟩
 | .k1168=>⟨(default:DCore)⟩
 | .k1171=>⟨(default:DGuest)⟩
 | .k2026=>⟨(default:DHost)⟩
 | .k2029=>⟨(default:DMove)⟩
 | .k2062=>⟨(default:DHost)⟩
 | .k2064=>⟨(default:DMove)⟩
def lfK:TyK->List Lf
 | .k3=>[.i .i64]
 | .k4=>[.b]
 | .k5=>[.i .u8]
 | .k26=>[.row 3,.row 94]
 | .k29=>[.row 3,.row 94,.row 3,.row 94,.i .i64,.i .i64,.row 4]
 | .k31=>[.i .i64,.i .i64]
 | .k39=>[.row 3,.i .i64,.i .i64,.i .i64,.i .i64,.b,.i .i64,.i .i64,.i .i64,.b,.b,.b,.b]
 | .k41=>[.row 3,.i .i64,.i .i64,.i .i64,.i .i64,.b,.i .i64,.i .i64,.i .i64,.b,.b,.b,.b,.row 3,.row 3,.row 3]
 | .k62=>[.row 3,.row 171]
 | .k64=>[.row 3,.row 171,.row 3,.row 171,.i .i64,.i .i64,.row 4]
 | .k65=>[.i .i64,.i .i64]
 | .k91=>[.i .i64,.b,.b]
 | .k94=>[.b,.row 3,.i .i64,.i .i64,.i .i64,.i .i64,.b,.i .i64,.i .i64,.i .i64,.b,.b,.b,.b,.row 91,.row 3,.row 3]
 | .k128=>[.row 5,.i .i64]
 | .k141=>[.i .i64,.i .i64,.i .i64]
 | .k147=>[.b,.b,.b,.i .i64,.i .i64,.b]
 | .k168=>[.row 3,.i .i64,.i .i64,.i .i64,.i .i64,.b,.i .i64,.i .i64,.i .i64,.b,.b,.b,.b]
 | .k171=>[.b,.row 3,.i .i64,.i .i64,.i .i64,.i .i64,.b,.i .i64,.i .i64,.i .i64,.b,.b,.b,.b,.row 211,.row 3,.row 3]
 | .k178=>[.i .i64,.i .i64,.i .i64,.i .i64,.i .i64]
 | .k181=>[.b,.b,.b,.i .i64]
 | .k211=>[.i .i64,.b,.b]
 | .k1039=>[.own 3,.i .i64,.i .i64,.i .i64,.i .i64,.b,.i .i64,.i .i64,.i .i64,.b,.b,.b,.b]
 | .k1041=>[.own 3,.i .i64,.i .i64,.i .i64,.i .i64,.b,.i .i64,.i .i64,.i .i64,.b,.b,.b,.b,.own 3,.own 3,.own 3]
 | .k1094=>[.b,.own 3,.i .i64,.i .i64,.i .i64,.i .i64,.b,.i .i64,.i .i64,.i .i64,.b,.b,.b,.b,.own 91,.own 3,.own 3]
 | .k1128=>[.own 5,.i .i64]
 | .k1168=>[.own 3,.i .i64,.i .i64,.i .i64,.i .i64,.b,.i .i64,.i .i64,.i .i64,.b,.b,.b,.b]
 | .k1171=>[.b,.own 3,.i .i64,.i .i64,.i .i64,.i .i64,.b,.i .i64,.i .i64,.i .i64,.b,.b,.b,.b,.own 211,.own 3,.own 3]
 | .k2026=>[.row 3,.row 1094]
 | .k2029=>[.row 3,.row 1094,.row 3,.row 1094,.i .i64,.i .i64,.row 4]
 | .k2062=>[.row 3,.row 1171]
 | .k2064=>[.row 3,.row 1171,.row 3,.row 1171,.i .i64,.i .i64,.row 4]
def unK:TyK->Nat
 | .k3=>3
 | .k4=>4
 | .k5=>5
 | .k26=>26
 | .k29=>29
 | .k31=>31
 | .k39=>39
 | .k41=>41
 | .k62=>62
 | .k64=>64
 | .k65=>65
 | .k91=>91
 | .k94=>94
 | .k128=>128
 | .k141=>141
 | .k147=>147
 | .k168=>168
 | .k171=>171
 | .k178=>178
 | .k181=>181
 | .k211=>211
 | .k1039=>39
 | .k1041=>41
 | .k1094=>94
 | .k1128=>128
 | .k1168=>168
 | .k1171=>171
 | .k2026=>26
 | .k2029=>29
 | .k2062=>62
 | .k2064=>64
theorem tuK:∀k,TyT k=TyT (kk (unK k))
 | .k3=>rfl
 | .k4=>rfl
 | .k5=>rfl
 | .k26=>rfl
 | .k29=>rfl
 | .k31=>rfl
 | .k39=>rfl
 | .k41=>rfl
 | .k62=>rfl
 | .k64=>rfl
 | .k65=>rfl
 | .k91=>rfl
 | .k94=>rfl
 | .k128=>rfl
 | .k141=>rfl
 | .k147=>rfl
 | .k168=>rfl
 | .k171=>rfl
 | .k178=>rfl
 | .k181=>rfl
 | .k211=>rfl
 | .k1039=>rfl
 | .k1041=>rfl
 | .k1094=>rfl
 | .k1128=>rfl
 | .k1168=>rfl
 | .k1171=>rfl
 | .k2026=>rfl
 | .k2029=>rfl
 | .k2062=>rfl
 | .k2064=>rfl
def plK:TyK->Bool
 | .k3=>true
 | .k4=>true
 | .k5=>true
 | .k26=>true
 | .k29=>true
 | .k31=>true
 | .k39=>true
 | .k41=>true
 | .k62=>true
 | .k64=>true
 | .k65=>true
 | .k91=>true
 | .k94=>true
 | .k128=>true
 | .k141=>true
 | .k147=>true
 | .k168=>true
 | .k171=>true
 | .k178=>true
 | .k181=>true
 | .k211=>true
 | .k1039=>false
 | .k1041=>false
 | .k1094=>false
 | .k1128=>false
 | .k1168=>false
 | .k1171=>false
 | .k2026=>false
 | .k2029=>false
 | .k2062=>false
 | .k2064=>false
def elK:TyK->Bool
 | .k3=>true
 | .k4=>true
 | .k5=>true
 | .k26=>true
 | .k29=>true
 | .k31=>true
 | .k39=>true
 | .k41=>true
 | .k62=>true
 | .k64=>true
 | .k65=>true
 | .k91=>true
 | .k94=>true
 | .k128=>true
 | .k141=>true
 | .k147=>true
 | .k168=>true
 | .k171=>true
 | .k178=>true
 | .k181=>true
 | .k211=>true
 | .k1039=>true
 | .k1041=>true
 | .k1094=>true
 | .k1128=>true
 | .k1168=>true
 | .k1171=>true
 | .k2026=>false
 | .k2029=>false
 | .k2062=>false
 | .k2064=>false
def tG:TS:=⟨λc=>TyT (kk c),λc=>inK (kk c),λc=>c%1000,λc=>lfK (kk c),λc=>unK (kk c),λc=>c+1000,λc=>tuK (kk c),λc=>plK (kk c),λc=>elK (kk c)⟩
def prK:∀k,TyT k->Tup tG (lfK k)
 | .k3,x=>(x:Int)
 | .k4,x=>(x:Bool)
 | .k5,x=>(x:Int)
 | .k26,x=>((x:DHost).Words,(x:DHost).Guests)
 | .k29,x=>((x:DMove).From.Words,(x:DMove).From.Guests,(x:DMove).To.Words,(x:DMove).To.Guests,(x:DMove).G,(x:DMove).N,(x:DMove).Left)
 | .k31,x=>((x:DAct).Kind,(x:DAct).Page)
 | .k39,x=>((x:DCore).Regs,(x:DCore).Pc,(x:DCore).Root,(x:DCore).Vector,(x:DCore).Saved,(x:DCore).SavedUser,(x:DCore).Cause,(x:DCore).Bad,(x:DCore).Timer,(x:DCore).Waits,(x:DCore).User,(x:DCore).On,(x:DCore).Stopped)
 | .k41,x=>((x:DBare).C.Regs,(x:DBare).C.Pc,(x:DBare).C.Root,(x:DBare).C.Vector,(x:DBare).C.Saved,(x:DBare).C.SavedUser,(x:DBare).C.Cause,(x:DBare).C.Bad,(x:DBare).C.Timer,(x:DBare).C.Waits,(x:DBare).C.User,(x:DBare).C.On,(x:DBare).C.Stopped,(x:DBare).Mem,(x:DBare).In,(x:DBare).Out)
 | .k62,x=>((x:DHost).Words,(x:DHost).Guests)
 | .k64,x=>((x:DMove).From.Words,(x:DMove).From.Guests,(x:DMove).To.Words,(x:DMove).To.Guests,(x:DMove).G,(x:DMove).N,(x:DMove).Left)
 | .k65,x=>((x:DAct).Kind,(x:DAct).Page)
 | .k91,x=>((x:DSlot).Frame,(x:DSlot).Write,(x:DSlot).Dirty)
 | .k94,x=>((x:DGuest).Live,(x:DGuest).C.Regs,(x:DGuest).C.Pc,(x:DGuest).C.Root,(x:DGuest).C.Vector,(x:DGuest).C.Saved,(x:DGuest).C.SavedUser,(x:DGuest).C.Cause,(x:DGuest).C.Bad,(x:DGuest).C.Timer,(x:DGuest).C.Waits,(x:DGuest).C.User,(x:DGuest).C.On,(x:DGuest).C.Stopped,(x:DGuest).Pages,(x:DGuest).In,(x:DGuest).Out)
 | .k128,x=>((x:Dl20Rd).b,(x:Dl20Rd).p)
 | .k141,x=>((x:DIns).Op,(x:DIns).A,(x:DIns).N)
 | .k147,x=>((x:DShade).There,(x:DShade).Write,(x:DShade).User,(x:DShade).Page,(x:DShade).Frame,(x:DShade).Ready)
 | .k168,x=>((x:DCore).Regs,(x:DCore).Pc,(x:DCore).Root,(x:DCore).Vector,(x:DCore).Saved,(x:DCore).SavedUser,(x:DCore).Cause,(x:DCore).Bad,(x:DCore).Timer,(x:DCore).Waits,(x:DCore).User,(x:DCore).On,(x:DCore).Stopped)
 | .k171,x=>((x:DGuest).Live,(x:DGuest).C.Regs,(x:DGuest).C.Pc,(x:DGuest).C.Root,(x:DGuest).C.Vector,(x:DGuest).C.Saved,(x:DGuest).C.SavedUser,(x:DGuest).C.Cause,(x:DGuest).C.Bad,(x:DGuest).C.Timer,(x:DGuest).C.Waits,(x:DGuest).C.User,(x:DGuest).C.On,(x:DGuest).C.Stopped,(x:DGuest).Pages,(x:DGuest).In,(x:DGuest).Out)
 | .k178,x=>((x:DExit).Why,(x:DExit).Page,(x:DExit).What.Op,(x:DExit).What.A,(x:DExit).What.N)
 | .k181,x=>((x:DEntry).There,(x:DEntry).Write,(x:DEntry).User,(x:DEntry).Page)
 | .k211,x=>((x:DSlot).Frame,(x:DSlot).Write,(x:DSlot).Dirty)
 | .k1039,x=>((x:DCore).Regs,(x:DCore).Pc,(x:DCore).Root,(x:DCore).Vector,(x:DCore).Saved,(x:DCore).SavedUser,(x:DCore).Cause,(x:DCore).Bad,(x:DCore).Timer,(x:DCore).Waits,(x:DCore).User,(x:DCore).On,(x:DCore).Stopped)
 | .k1041,x=>((x:DBare).C.Regs,(x:DBare).C.Pc,(x:DBare).C.Root,(x:DBare).C.Vector,(x:DBare).C.Saved,(x:DBare).C.SavedUser,(x:DBare).C.Cause,(x:DBare).C.Bad,(x:DBare).C.Timer,(x:DBare).C.Waits,(x:DBare).C.User,(x:DBare).C.On,(x:DBare).C.Stopped,(x:DBare).Mem,(x:DBare).In,(x:DBare).Out)
 | .k1094,x=>((x:DGuest).Live,(x:DGuest).C.Regs,(x:DGuest).C.Pc,(x:DGuest).C.Root,(x:DGuest).C.Vector,(x:DGuest).C.Saved,(x:DGuest).C.SavedUser,(x:DGuest).C.Cause,(x:DGuest).C.Bad,(x:DGuest).C.Timer,(x:DGuest).C.Waits,(x:DGuest).C.User,(x:DGuest).C.On,(x:DGuest).C.Stopped,(x:DGuest).Pages,(x:DGuest).In,(x:DGuest).Out)
 | .k1128,x=>((x:Dl20Rd).b,(x:Dl20Rd).p)
 | .k1168,x=>((x:DCore).Regs,(x:DCore).Pc,(x:DCore).Root,(x:DCore).Vector,(x:DCore).Saved,(x:DCore).SavedUser,(x:DCore).Cause,(x:DCore).Bad,(x:DCore).Timer,(x:DCore).Waits,(x:DCore).User,(x:DCore).On,(x:DCore).Stopped)
 | .k1171,x=>((x:DGuest).Live,(x:DGuest).C.Regs,(x:DGuest).C.Pc,(x:DGuest).C.Root,(x:DGuest).C.Vector,(x:DGuest).C.Saved,(x:DGuest).C.SavedUser,(x:DGuest).C.Cause,(x:DGuest).C.Bad,(x:DGuest).C.Timer,(x:DGuest).C.Waits,(x:DGuest).C.User,(x:DGuest).C.On,(x:DGuest).C.Stopped,(x:DGuest).Pages,(x:DGuest).In,(x:DGuest).Out)
 | .k2026,x=>((x:DHost).Words,(x:DHost).Guests)
 | .k2029,x=>((x:DMove).From.Words,(x:DMove).From.Guests,(x:DMove).To.Words,(x:DMove).To.Guests,(x:DMove).G,(x:DMove).N,(x:DMove).Left)
 | .k2062,x=>((x:DHost).Words,(x:DHost).Guests)
 | .k2064,x=>((x:DMove).From.Words,(x:DMove).From.Guests,(x:DMove).To.Words,(x:DMove).To.Guests,(x:DMove).G,(x:DMove).N,(x:DMove).Left)
def mkK:∀k,Tup tG (lfK k)->TyT k
 | .k3,a0=>a0
 | .k4,a0=>a0
 | .k5,a0=>a0
 | .k26,(a0,a1)=>(DHost.mk a0 a1)
 | .k29,(a0,a1,a2,a3,a4,a5,a6)=>(DMove.mk (DHost.mk a0 a1) (DHost.mk a2 a3) a4 a5 a6)
 | .k31,(a0,a1)=>(DAct.mk a0 a1)
 | .k39,(a0,a1,a2,a3,a4,a5,a6,a7,a8,a9,a10,a11,a12)=>(DCore.mk a0 a1 a2 a3 a4 a5 a6 a7 a8 a9 a10 a11 a12)
 | .k41,(a0,a1,a2,a3,a4,a5,a6,a7,a8,a9,a10,a11,a12,a13,a14,a15)=>(DBare.mk (DCore.mk a0 a1 a2 a3 a4 a5 a6 a7 a8 a9 a10 a11 a12) a13 a14 a15)
 | .k62,(a0,a1)=>(DHost.mk a0 a1)
 | .k64,(a0,a1,a2,a3,a4,a5,a6)=>(DMove.mk (DHost.mk a0 a1) (DHost.mk a2 a3) a4 a5 a6)
 | .k65,(a0,a1)=>(DAct.mk a0 a1)
 | .k91,(a0,a1,a2)=>(DSlot.mk a0 a1 a2)
 | .k94,(a0,a1,a2,a3,a4,a5,a6,a7,a8,a9,a10,a11,a12,a13,a14,a15,a16)=>(DGuest.mk a0 (DCore.mk a1 a2 a3 a4 a5 a6 a7 a8 a9 a10 a11 a12 a13) a14 a15 a16)
 | .k128,(a0,a1)=>(Dl20Rd.mk a0 a1)
 | .k141,(a0,a1,a2)=>(DIns.mk a0 a1 a2)
 | .k147,(a0,a1,a2,a3,a4,a5)=>(DShade.mk a0 a1 a2 a3 a4 a5)
 | .k168,(a0,a1,a2,a3,a4,a5,a6,a7,a8,a9,a10,a11,a12)=>(DCore.mk a0 a1 a2 a3 a4 a5 a6 a7 a8 a9 a10 a11 a12)
 | .k171,(a0,a1,a2,a3,a4,a5,a6,a7,a8,a9,a10,a11,a12,a13,a14,a15,a16)=>(DGuest.mk a0 (DCore.mk a1 a2 a3 a4 a5 a6 a7 a8 a9 a10 a11 a12 a13) a14 a15 a16)
 | .k178,(a0,a1,a2,a3,a4)=>(DExit.mk a0 a1 (DIns.mk a2 a3 a4))
 | .k181,(a0,a1,a2,a3)=>(DEntry.mk a0 a1 a2 a3)
 | .k211,(a0,a1,a2)=>(DSlot.mk a0 a1 a2)
 | .k1039,(a0,a1,a2,a3,a4,a5,a6,a7,a8,a9,a10,a11,a12)=>(DCore.mk a0 a1 a2 a3 a4 a5 a6 a7 a8 a9 a10 a11 a12)
 | .k1041,(a0,a1,a2,a3,a4,a5,a6,a7,a8,a9,a10,a11,a12,a13,a14,a15)=>(DBare.mk (DCore.mk a0 a1 a2 a3 a4 a5 a6 a7 a8 a9 a10 a11 a12) a13 a14 a15)
 | .k1094,(a0,a1,a2,a3,a4,a5,a6,a7,a8,a9,a10,a11,a12,a13,a14,a15,a16)=>(DGuest.mk a0 (DCore.mk a1 a2 a3 a4 a5 a6 a7 a8 a9 a10 a11 a12 a13) a14 a15 a16)
 | .k1128,(a0,a1)=>(Dl20Rd.mk a0 a1)
 | .k1168,(a0,a1,a2,a3,a4,a5,a6,a7,a8,a9,a10,a11,a12)=>(DCore.mk a0 a1 a2 a3 a4 a5 a6 a7 a8 a9 a10 a11 a12)
 | .k1171,(a0,a1,a2,a3,a4,a5,a6,a7,a8,a9,a10,a11,a12,a13,a14,a15,a16)=>(DGuest.mk a0 (DCore.mk a1 a2 a3 a4 a5 a6 a7 a8 a9 a10 a11 a12 a13) a14 a15 a16)
 | .k2026,(a0,a1)=>(DHost.mk a0 a1)
 | .k2029,(a0,a1,a2,a3,a4,a5,a6)=>(DMove.mk (DHost.mk a0 a1) (DHost.mk a2 a3) a4 a5 a6)
 | .k2062,(a0,a1)=>(DHost.mk a0 a1)
 | .k2064,(a0,a1,a2,a3,a4,a5,a6)=>(DMove.mk (DHost.mk a0 a1) (DHost.mk a2 a3) a4 a5 a6)
def bTa(x:DHost):List AV:=[.bor (x9 x.Words) (fl (eI .i64) x.Words),.bor (x9 x.Guests) (fl dO x.Guests)]
theorem bYn:∀x,aG (bTa x)=true:=λx=>by simp only[bTa,aG,AV.noRef,d8,aC bO,aC gX]
def bTw(x:DMove):List AV:=[.bor (x9 x.From.Words) (fl (eI .i64) x.From.Words),.bor (x9 x.From.Guests) (fl dO x.From.Guests),.bor (x9 x.To.Words) (fl (eI .i64) x.To.Words),.bor (x9 x.To.Guests) (fl dO x.To.Guests),.int .i64 x.G,.int .i64 x.N,.bor (x9 x.Left) (fl eB x.Left)]
theorem bZd:∀x,aG (bTw x)=true:=λx=>by simp only[bTw,aG,AV.noRef,d8,aC bO,aC gX,aC aEc]
def bSh(x:DHost):List AV:=[.bor (x9 x.Words) (fl (eI .i64) x.Words),.bor (x9 x.Guests) (fl yL x.Guests)]
theorem bZb:∀x,aG (bSh x)=true:=λx=>by simp only[bSh,aG,AV.noRef,d8,aC bO,aC yC]
def bWb(x:DMove):List AV:=[.bor (x9 x.From.Words) (fl (eI .i64) x.From.Words),.bor (x9 x.From.Guests) (fl yL x.From.Guests),.bor (x9 x.To.Words) (fl (eI .i64) x.To.Words),.bor (x9 x.To.Guests) (fl yL x.To.Guests),.int .i64 x.G,.int .i64 x.N,.bor (x9 x.Left) (fl eB x.Left)]
theorem bXe:∀x,aG (bWb x)=true:=λx=>by simp only[bWb,aG,AV.noRef,d8,aC bO,aC yC,aC aEc]
def avK:∀k,TyT k->List AV
 | .k3=>eI .i64
 | .k4=>eB
 | .k5=>eI .u8
 | .k26=>dE
 | .k29=>aQg
 | .k31=>aWt
 | .k39=>aLg
 | .k41=>tI
 | .k62=>aQk
 | .k64=>aRw
 | .k65=>aVq
 | .k91=>dP
 | .k94=>dI
 | .k128=>aEh
 | .k141=>aNb
 | .k147=>aMr
 | .k168=>aDw
 | .k171=>wP
 | .k178=>aMp
 | .k181=>aNl
 | .k211=>aBw
 | .k1039=>aQy
 | .k1041=>aRf
 | .k1094=>dO
 | .k1128=>aIq
 | .k1168=>aIl
 | .k1171=>yL
 | .k2026=>bTa
 | .k2029=>bTw
 | .k2062=>bSh
 | .k2064=>bWb
theorem clK:∀k x,plK k=true->aS (avK k x)=true
 | .k3,x,_=>dB x
 | .k4,x,_=>aZj x
 | .k5,x,_=>dB x
 | .k26,x,_=>qL x
 | .k29,x,_=>bJh x
 | .k31,x,_=>bGz x
 | .k39,x,_=>bJd x
 | .k41,x,_=>aVt x
 | .k62,x,_=>bJo x
 | .k64,x,_=>bGs x
 | .k65,x,_=>bHv x
 | .k91,x,_=>aFu x
 | .k94,x,_=>aGi x
 | .k128,x,_=>bAb x
 | .k141,x,_=>bAo x
 | .k147,x,_=>bFc x
 | .k168,x,_=>bAa x
 | .k171,x,_=>aIn x
 | .k178,x,_=>bBh x
 | .k181,x,_=>bDn x
 | .k211,x,_=>aIp x
 | .k1039,_,h=>by cases h
 | .k1041,_,h=>by cases h
 | .k1094,_,h=>by cases h
 | .k1128,_,h=>by cases h
 | .k1168,_,h=>by cases h
 | .k1171,_,h=>by cases h
 | .k2026,_,h=>by cases h
 | .k2029,_,h=>by cases h
 | .k2062,_,h=>by cases h
 | .k2064,_,h=>by cases h
theorem nrK:∀k x,aG (avK k x)=true
 | .k3,x=>bO x
 | .k4,x=>aEc x
 | .k5,x=>bO x
 | .k26,x=>aNf x
 | .k29,x=>aMk x
 | .k31,x=>aNn x
 | .k39,x=>aMz x
 | .k41,x=>aNp x
 | .k62,x=>aMl x
 | .k64,x=>aMy x
 | .k65,x=>aNh x
 | .k91,x=>oF x
 | .k94,x=>aCg x
 | .k128,x=>aHi x
 | .k141,x=>aGr x
 | .k147,x=>aIr x
 | .k168,x=>aHd x
 | .k171,x=>yA x
 | .k178,x=>aIj x
 | .k181,x=>aGu x
 | .k211,x=>yB x
 | .k1039,x=>aNo x
 | .k1041,x=>aNk x
 | .k1094,x=>gX x
 | .k1128,x=>aHn x
 | .k1168,x=>aIo x
 | .k1171,x=>yC x
 | .k2026,x=>bYn x
 | .k2029,x=>bZd x
 | .k2062,x=>bZb x
 | .k2064,x=>bXe x
theorem cIg:∀k,plK k=true->(lfK k).all (plL tG)=true
 | .k3,_=>rfl
 | .k4,_=>rfl
 | .k5,_=>rfl
 | .k26,_=>rfl
 | .k29,_=>rfl
 | .k31,_=>rfl
 | .k39,_=>rfl
 | .k41,_=>rfl
 | .k62,_=>rfl
 | .k64,_=>rfl
 | .k65,_=>rfl
 | .k91,_=>rfl
 | .k94,_=>rfl
 | .k128,_=>rfl
 | .k141,_=>rfl
 | .k147,_=>rfl
 | .k168,_=>rfl
 | .k171,_=>rfl
 | .k178,_=>rfl
 | .k181,_=>rfl
 | .k211,_=>rfl
 | .k1039,h=>by cases h
 | .k1041,h=>by cases h
 | .k1094,h=>by cases h
 | .k1128,h=>by cases h
 | .k1168,h=>by cases h
 | .k1171,h=>by cases h
 | .k2026,h=>by cases h
 | .k2029,h=>by cases h
 | .k2062,h=>by cases h
 | .k2064,h=>by cases h
theorem cHu:∀k,elK k=true->(lfK k).all (elL tG)=true
 | .k3,_=>rfl
 | .k4,_=>rfl
 | .k5,_=>rfl
 | .k26,_=>rfl
 | .k29,_=>rfl
 | .k31,_=>rfl
 | .k39,_=>rfl
 | .k41,_=>rfl
 | .k62,_=>rfl
 | .k64,_=>rfl
 | .k65,_=>rfl
 | .k91,_=>rfl
 | .k94,_=>rfl
 | .k128,_=>rfl
 | .k141,_=>rfl
 | .k147,_=>rfl
 | .k168,_=>rfl
 | .k171,_=>rfl
 | .k178,_=>rfl
 | .k181,_=>rfl
 | .k211,_=>rfl
 | .k1039,_=>rfl
 | .k1041,_=>rfl
 | .k1094,_=>rfl
 | .k1128,_=>rfl
 | .k1168,_=>rfl
 | .k1171,_=>rfl
 | .k2026,h=>by cases h
 | .k2029,h=>by cases h
 | .k2062,h=>by cases h
 | .k2064,h=>by cases h
theorem cGw:∀k,elK k=true->plK (kk (unK k))=true
 | .k3,_=>rfl
 | .k4,_=>rfl
 | .k5,_=>rfl
 | .k26,_=>rfl
 | .k29,_=>rfl
 | .k31,_=>rfl
 | .k39,_=>rfl
 | .k41,_=>rfl
 | .k62,_=>rfl
 | .k64,_=>rfl
 | .k65,_=>rfl
 | .k91,_=>rfl
 | .k94,_=>rfl
 | .k128,_=>rfl
 | .k141,_=>rfl
 | .k147,_=>rfl
 | .k168,_=>rfl
 | .k171,_=>rfl
 | .k178,_=>rfl
 | .k181,_=>rfl
 | .k211,_=>rfl
 | .k1039,_=>rfl
 | .k1041,_=>rfl
 | .k1094,_=>rfl
 | .k1128,_=>rfl
 | .k1168,_=>rfl
 | .k1171,_=>rfl
 | .k2026,h=>by cases h
 | .k2029,h=>by cases h
 | .k2062,h=>by cases h
 | .k2064,h=>by cases h
theorem thK:∀k x,elK k=true->(avK k x).map AV.thaw=avK (kk (unK k)) (cast (tuK k) x)
 | .k3,x,_=>by kernel_rfl
 | .k4,x,_=>by kernel_rfl
 | .k5,x,_=>by kernel_rfl
 | .k26,x,_=>by kernel_rfl
 | .k29,x,_=>by kernel_rfl
 | .k31,x,_=>by kernel_rfl
 | .k39,x,_=>by kernel_rfl
 | .k41,x,_=>by kernel_rfl
 | .k62,x,_=>by kernel_rfl
 | .k64,x,_=>by kernel_rfl
 | .k65,x,_=>by kernel_rfl
 | .k91,x,_=>by kernel_rfl
 | .k94,x,_=>by kernel_rfl
 | .k128,x,_=>by kernel_rfl
 | .k141,x,_=>by kernel_rfl
 | .k147,x,_=>by kernel_rfl
 | .k168,x,_=>by kernel_rfl
 | .k171,x,_=>by kernel_rfl
 | .k178,x,_=>by kernel_rfl
 | .k181,x,_=>by kernel_rfl
 | .k211,x,_=>by kernel_rfl
 | .k1039,x,_=>by kernel_rfl
 | .k1041,x,_=>by kernel_rfl
 | .k1094,x,_=>by kernel_rfl
 | .k1128,x,_=>by kernel_rfl
 | .k1168,x,_=>by kernel_rfl
 | .k1171,x,_=>by kernel_rfl
 | .k2026,_,h=>by cases h
 | .k2029,_,h=>by cases h
 | .k2062,_,h=>by cases h
 | .k2064,_,h=>by cases h
theorem shK:∀k x,elK k=true->Shal (avK k x)
 | .k3,x,_=>hM (dN x)
 | .k4,x,_=>hM (bWv x)
 | .k5,x,_=>hM (dN x)
 | .k26,x,_=>hM (bIl x)
 | .k29,x,_=>hM (bIy x)
 | .k31,x,_=>hM (bGn x)
 | .k39,x,_=>hM (bHa x)
 | .k41,x,_=>hM (bIh x)
 | .k62,x,_=>hM (bHn x)
 | .k64,x,_=>hM (bIg x)
 | .k65,x,_=>hM (bJe x)
 | .k91,x,_=>hM (aNg x)
 | .k94,x,_=>hM (bGk x)
 | .k128,x,_=>hM (bCn x)
 | .k141,x,_=>hM (bBo x)
 | .k147,x,_=>hM (bBy x)
 | .k168,x,_=>hM (bCq x)
 | .k171,x,_=>hM (bCo x)
 | .k178,x,_=>hM (bCc x)
 | .k181,x,_=>hM (bEa x)
 | .k211,x,_=>hM (aIe x)
 | .k1039,x,_=>bZe x
 | .k1041,x,_=>bXs x
 | .k1094,x,_=>bXg x
 | .k1128,x,_=>bVq x
 | .k1168,x,_=>bVb x
 | .k1171,x,_=>bRq x
 | .k2026,_,h=>by cases h
 | .k2029,_,h=>by cases h
 | .k2062,_,h=>by cases h
 | .k2064,_,h=>by cases h
theorem ckK{a b:Prop}(h:a)(e:a=b:=by kernel_rfl):b:=e▸h
theorem cEz:∀k,elK k=true->oG (avK k) (λx=>avK (kk (unK k)) (cast (tuK k) x))
 | .k3,_=>ckK (fM (c:=eI .i64) dN dB)
 | .k4,_=>ckK (fM (c:=eB) bWv aZj)
 | .k5,_=>ckK (fM (c:=eI .u8) dN dB)
 | .k26,_=>ckK (fM (c:=dE) bIl qL)
 | .k29,_=>ckK (fM (c:=aQg) bIy bJh)
 | .k31,_=>ckK (fM (c:=aWt) bGn bGz)
 | .k39,_=>ckK (fM (c:=aLg) bHa bJd)
 | .k41,_=>ckK (fM (c:=tI) bIh aVt)
 | .k62,_=>ckK (fM (c:=aQk) bHn bJo)
 | .k64,_=>ckK (fM (c:=aRw) bIg bGs)
 | .k65,_=>ckK (fM (c:=aVq) bJe bHv)
 | .k91,_=>ckK (fM (c:=dP) aNg aFu)
 | .k94,_=>ckK (fM (c:=dI) bGk aGi)
 | .k128,_=>ckK (fM (c:=aEh) bCn bAb)
 | .k141,_=>ckK (fM (c:=aNb) bBo bAo)
 | .k147,_=>ckK (fM (c:=aMr) bBy bFc)
 | .k168,_=>ckK (fM (c:=aDw) bCq bAa)
 | .k171,_=>ckK (fM (c:=wP) bCo aIn)
 | .k178,_=>ckK (fM (c:=aMp) bCc bBh)
 | .k181,_=>ckK (fM (c:=aNl) bEa bDn)
 | .k211,_=>ckK (fM (c:=aBw) aIe aIp)
 | .k1039,_=>ckK bZa
 | .k1041,_=>ckK bYt
 | .k1094,_=>ckK aVz
 | .k1128,_=>ckK bSt
 | .k1168,_=>ckK bTu
 | .k1171,_=>ckK bUv
 | .k2026,h=>by cases h
 | .k2029,h=>by cases h
 | .k2062,h=>by cases h
 | .k2064,h=>by cases h
def tG1:TS1:=⟨tG,λc=>prK (kk c),λc=>mkK (kk c),λc=>avK (kk c)⟩
theorem cFu:∀k x,avK k x=trs tG1 (cB tG (lfK k) (prK k x))
 | .k3,x=>by kernel_rfl
 | .k4,x=>by kernel_rfl
 | .k5,x=>by kernel_rfl
 | .k26,x=>by kernel_rfl
 | .k29,x=>by kernel_rfl
 | .k31,x=>by kernel_rfl
 | .k39,x=>by kernel_rfl
 | .k41,x=>by kernel_rfl
 | .k62,x=>by kernel_rfl
 | .k64,x=>by kernel_rfl
 | .k65,x=>by kernel_rfl
 | .k91,x=>by kernel_rfl
 | .k94,x=>by kernel_rfl
 | .k128,x=>by kernel_rfl
 | .k141,x=>by kernel_rfl
 | .k147,x=>by kernel_rfl
 | .k168,x=>by kernel_rfl
 | .k171,x=>by kernel_rfl
 | .k178,x=>by kernel_rfl
 | .k181,x=>by kernel_rfl
 | .k211,x=>by kernel_rfl
 | .k1039,x=>by kernel_rfl
 | .k1041,x=>by kernel_rfl
 | .k1094,x=>by kernel_rfl
 | .k1128,x=>by kernel_rfl
 | .k1168,x=>by kernel_rfl
 | .k1171,x=>by kernel_rfl
 | .k2026,x=>by kernel_rfl
 | .k2029,x=>by kernel_rfl
 | .k2062,x=>by kernel_rfl
 | .k2064,x=>by kernel_rfl
theorem cHs:∀k t,prK k (mkK k t)=t
 | .k3,t=>by kernel_rfl
 | .k4,t=>by kernel_rfl
 | .k5,t=>by kernel_rfl
 | .k26,t=>by kernel_rfl
 | .k29,t=>by kernel_rfl
 | .k31,t=>by kernel_rfl
 | .k39,t=>by kernel_rfl
 | .k41,t=>by kernel_rfl
 | .k62,t=>by kernel_rfl
 | .k64,t=>by kernel_rfl
 | .k65,t=>by kernel_rfl
 | .k91,t=>by kernel_rfl
 | .k94,t=>by kernel_rfl
 | .k128,t=>by kernel_rfl
 | .k141,t=>by kernel_rfl
 | .k147,t=>by kernel_rfl
 | .k168,t=>by kernel_rfl
 | .k171,t=>by kernel_rfl
 | .k178,t=>by kernel_rfl
 | .k181,t=>by kernel_rfl
 | .k211,t=>by kernel_rfl
 | .k1039,t=>by kernel_rfl
 | .k1041,t=>by kernel_rfl
 | .k1094,t=>by kernel_rfl
 | .k1128,t=>by kernel_rfl
 | .k1168,t=>by kernel_rfl
 | .k1171,t=>by kernel_rfl
 | .k2026,t=>by kernel_rfl
 | .k2029,t=>by kernel_rfl
 | .k2062,t=>by kernel_rfl
 | .k2064,t=>by kernel_rfl
theorem cHl:∀k,0<(lfK k).length
 | .k3=>by decide
 | .k4=>by decide
 | .k5=>by decide
 | .k26=>by decide
 | .k29=>by decide
 | .k31=>by decide
 | .k39=>by decide
 | .k41=>by decide
 | .k62=>by decide
 | .k64=>by decide
 | .k65=>by decide
 | .k91=>by decide
 | .k94=>by decide
 | .k128=>by decide
 | .k141=>by decide
 | .k147=>by decide
 | .k168=>by decide
 | .k171=>by decide
 | .k178=>by decide
 | .k181=>by decide
 | .k211=>by decide
 | .k1039=>by decide
 | .k1041=>by decide
 | .k1094=>by decide
 | .k1128=>by decide
 | .k1168=>by decide
 | .k1171=>by decide
 | .k2026=>by decide
 | .k2029=>by decide
 | .k2062=>by decide
 | .k2064=>by decide
def tS:TS2:=⟨tG1,λc x=>cFu (kk c) x,λc t=>cHs (kk c) t,λc=>cHl (kk c),λc x=>clK (kk c) x,λc x=>nrK (kk c) x,λc=>cIg (kk c),λc=>cHu (kk c),λc x=>thK (kk c) x,λc x=>shK (kk c) x,λc=>cEz (kk c),λc=>cGw (kk c)⟩
abbrev Sok(f:Nat)(g:Sg tG):Prop:=SgP tG1 Tryz.prog f (avR tG1 g.r) g.ps [] g.F
abbrev Sjk(f:Nat)(g:Sw tG):Prop:=SjP tG1 Tryz.prog f g.r g.qs g.qs [] TH.emp 0 g.F
abbrev Sop(f:Nat)(g:So tG):Prop:=SoP tG1 Tryz.prog f g.c g.ps [] g.F
def cxL(l:List (Nat×Sx tG)):Ctx tG:=λk=>match l with
 |[]=>none
 |(f,s)::l=>match Nat.beq f k with|true=>some s|false=>cxL l k
def CxP:List (Nat×Sx tG)->Prop
 |[]=>True
 |(f,s)::l=>cAr tG1 Tryz.prog f s/\CxP l
theorem bAz:∀{l:List (Nat×Sx tG)},CxP l->sM tG1 Tryz.prog (cxL l)
 |[],_=>λf s h=>by simp only[cxL]at h;cases h
 |(f0,s0)::l,hl=>λf s h=>by simp only[cxL]at h;split at h;{rename_i e;have:=Nat.eq_of_beq_eq_true e;subst this;cases h;exact hl.1};{exact bAz hl.2 f s h}
theorem sgx{f:Nat}{g:Sg tG}(l:List (Nat×Sx tG))(hl:CxP l)(A:An)(h:bJt tG1 (cxL l) (aAb Tryz.prog f) A g.r g.ps [] 0=g.F)(h1:(kP Tryz.prog f).isSome=true)(h2:(Nat.ble g.ps.length (aAb Tryz.prog f).ntmps&&wfR tG g.r&&g.ps.all (wfA tG))=true):Sok f g:=sg (τ:=tS) (bAz hl) f A g.r g.ps g.F h h1 h2
theorem sgy{f:Nat}{g:Sw tG}(l:List (Nat×Sx tG))(hl:CxP l)(A:An)(h:bKk tG1 (cxL l) (aAb Tryz.prog f) A g.r g.qs g.qs [] TH.emp 0 0=g.F)(h1:(kP Tryz.prog f).isSome=true)(h2:(Nat.ble g.qs.length (aAb Tryz.prog f).ntmps&&wfR tG g.r&&g.qs.all (wfQ tG))=true):Sjk f g:=sgw (τ:=tS) (bAz hl) f A g.r g.qs g.F h h1 h2
theorem kc{a b:Prop}(h:a)(e:a=b:=by kernel_rfl):b:=e▸h
end Go.Proofs.YtcgggihjcelmhaaGreat
