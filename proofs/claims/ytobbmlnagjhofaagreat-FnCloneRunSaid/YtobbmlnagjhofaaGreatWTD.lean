/- The types of the typed machine. Made by program. -/
import Derived.Test.YtobbmlnagjhofaaGreatWT5
import Derived.Test.YtobbmlnagjhofaaGreatDE
import Derived.Test.YtobbmlnagjhofaaGreatProg
namespace Go.Proofs.YtobbmlnagjhofaaGreat
open Go.RowKit
set_option maxRecDepth 100000
set_option linter.all false
set_option maxHeartbeats 0
inductive TyK where
 |k3
 |k4
 |k5
 |k26
 |k36
 |k39
 |k42
 |k59
 |k71
 |k87
 |k98
 |k109
 |k121
 |k1036
 |k1039
 |k1042
 |k1071
 |k2026
def kk:Nat->TyK
 |3=> .k3
 |4=> .k4
 |5=> .k5
 |26=> .k26
 |36=> .k36
 |39=> .k39
 |42=> .k42
 |59=> .k59
 |71=> .k71
 |87=> .k87
 |98=> .k98
 |109=> .k109
 |121=> .k121
 |1036=> .k1036
 |1039=> .k1039
 |1042=> .k1042
 |1071=> .k1071
 |2026=> .k2026
 |_=> .k3
def TyT:TyK->Type
 | .k3=>Int
 | .k4=>Bool
 | .k5=>Int
 | .k26=>DHost
 | .k36=>DCore
 | .k39=>DGuest
 | .k42=>DBare
 | .k59=>DSlot
 | .k71=>Dl20Rd
 | .k87=>DIns
 | .k98=>DExit
 | .k109=>DEntry
 | .k121=>DShade
 | .k1036=>DCore
 | .k1039=>DGuest
 | .k1042=>DBare
 | .k1071=>Dl20Rd
 | .k2026=>DHost
@[reducible] def inK : ∀ k, Inhabited (TyT k)
 | .k3=>⟨(default:Int)⟩
 | .k4=>⟨(default:Bool)⟩
 | .k5=>⟨(default:Int)⟩
 | .k26=>⟨(default:DHost)⟩
 | .k36=>⟨(default:DCore)⟩
 | .k39=>⟨(default:DGuest)⟩
 | .k42=>⟨(default:DBare)⟩
 | .k59=>⟨(default:DSlot)⟩
 | .k71=>⟨(default:Dl20Rd)⟩
 | .k87=>⟨(default:DIns)⟩
 | .k98=>⟨(default:DExit)⟩
 | .k109=>⟨(default:DEntry)⟩
 | .k121=>⟨(default:DShade)⟩
 | .k1036=>⟨(default:DCore)⟩
 | .k1039=>⟨(default:DGuest)⟩
 | .k1042=>⟨(default:DBare)⟩
 | .k1071=>⟨(default:Dl20Rd)⟩
 | .k2026=>⟨(default:DHost)⟩
def lfK:TyK->List Lf
 | .k3=>[.i .i64]
 | .k4=>[.b]
 | .k5=>[.i .u8]
 | .k26=>[.row 3,.row 39]
 | .k36=>[.row 3,.i .i64,.i .i64,.i .i64,.i .i64,.b,.i .i64,.i .i64,.i .i64,.b,.b,.b,.b]
 | .k39=>[.b,.row 3,.i .i64,.i .i64,.i .i64,.i .i64,.b,.i .i64,.i .i64,.i .i64,.b,.b,.b,.b,.row 59,.row 3,.row 3]
 | .k42=>[.row 3,.i .i64,.i .i64,.i .i64,.i .i64,.b,.i .i64,.i .i64,.i .i64,.b,.b,.b,.b,.row 3,.row 3,.row 3]
 | .k59=>[.i .i64,.b,.b]
 | .k71=>[.row 5,.i .i64]
 | .k87=>[.i .i64,.i .i64,.i .i64]
 | .k98=>[.i .i64,.i .i64,.i .i64,.i .i64,.i .i64]
 | .k109=>[.b,.b,.b,.i .i64]
 | .k121=>[.b,.b,.b,.i .i64,.i .i64,.b]
 | .k1036=>[.own 3,.i .i64,.i .i64,.i .i64,.i .i64,.b,.i .i64,.i .i64,.i .i64,.b,.b,.b,.b]
 | .k1039=>[.b,.own 3,.i .i64,.i .i64,.i .i64,.i .i64,.b,.i .i64,.i .i64,.i .i64,.b,.b,.b,.b,.own 59,.own 3,.own 3]
 | .k1042=>[.own 3,.i .i64,.i .i64,.i .i64,.i .i64,.b,.i .i64,.i .i64,.i .i64,.b,.b,.b,.b,.own 3,.own 3,.own 3]
 | .k1071=>[.own 5,.i .i64]
 | .k2026=>[.row 3,.row 1039]
def unK:TyK->Nat
 | .k3=>3
 | .k4=>4
 | .k5=>5
 | .k26=>26
 | .k36=>36
 | .k39=>39
 | .k42=>42
 | .k59=>59
 | .k71=>71
 | .k87=>87
 | .k98=>98
 | .k109=>109
 | .k121=>121
 | .k1036=>36
 | .k1039=>39
 | .k1042=>42
 | .k1071=>71
 | .k2026=>26
theorem tuK:∀k,TyT k=TyT (kk (unK k))
 | .k3=>rfl
 | .k4=>rfl
 | .k5=>rfl
 | .k26=>rfl
 | .k36=>rfl
 | .k39=>rfl
 | .k42=>rfl
 | .k59=>rfl
 | .k71=>rfl
 | .k87=>rfl
 | .k98=>rfl
 | .k109=>rfl
 | .k121=>rfl
 | .k1036=>rfl
 | .k1039=>rfl
 | .k1042=>rfl
 | .k1071=>rfl
 | .k2026=>rfl
def plK:TyK->Bool
 | .k3=>true
 | .k4=>true
 | .k5=>true
 | .k26=>true
 | .k36=>true
 | .k39=>true
 | .k42=>true
 | .k59=>true
 | .k71=>true
 | .k87=>true
 | .k98=>true
 | .k109=>true
 | .k121=>true
 | .k1036=>false
 | .k1039=>false
 | .k1042=>false
 | .k1071=>false
 | .k2026=>false
def elK:TyK->Bool
 | .k3=>true
 | .k4=>true
 | .k5=>true
 | .k26=>true
 | .k36=>true
 | .k39=>true
 | .k42=>true
 | .k59=>true
 | .k71=>true
 | .k87=>true
 | .k98=>true
 | .k109=>true
 | .k121=>true
 | .k1036=>true
 | .k1039=>true
 | .k1042=>true
 | .k1071=>true
 | .k2026=>false
def tG:TS:=⟨λc=>TyT (kk c),λc=>inK (kk c),λc=>c%1000,λc=>lfK (kk c),λc=>unK (kk c),λc=>c+1000,λc=>tuK (kk c),λc=>plK (kk c),λc=>elK (kk c)⟩
def prK:∀k,TyT k->Tup tG (lfK k)
 | .k3,x=>(x:Int)
 | .k4,x=>(x:Bool)
 | .k5,x=>(x:Int)
 | .k26,x=>((x:DHost).Words,(x:DHost).Guests)
 | .k36,x=>((x:DCore).Regs,(x:DCore).Pc,(x:DCore).Root,(x:DCore).Vector,(x:DCore).Saved,(x:DCore).SavedUser,(x:DCore).Cause,(x:DCore).Bad,(x:DCore).Timer,(x:DCore).Waits,(x:DCore).User,(x:DCore).On,(x:DCore).Stopped)
 | .k39,x=>((x:DGuest).Live,(x:DGuest).C.Regs,(x:DGuest).C.Pc,(x:DGuest).C.Root,(x:DGuest).C.Vector,(x:DGuest).C.Saved,(x:DGuest).C.SavedUser,(x:DGuest).C.Cause,(x:DGuest).C.Bad,(x:DGuest).C.Timer,(x:DGuest).C.Waits,(x:DGuest).C.User,(x:DGuest).C.On,(x:DGuest).C.Stopped,(x:DGuest).Pages,(x:DGuest).In,(x:DGuest).Out)
 | .k42,x=>((x:DBare).C.Regs,(x:DBare).C.Pc,(x:DBare).C.Root,(x:DBare).C.Vector,(x:DBare).C.Saved,(x:DBare).C.SavedUser,(x:DBare).C.Cause,(x:DBare).C.Bad,(x:DBare).C.Timer,(x:DBare).C.Waits,(x:DBare).C.User,(x:DBare).C.On,(x:DBare).C.Stopped,(x:DBare).Mem,(x:DBare).In,(x:DBare).Out)
 | .k59,x=>((x:DSlot).Frame,(x:DSlot).Write,(x:DSlot).Dirty)
 | .k71,x=>((x:Dl20Rd).b,(x:Dl20Rd).p)
 | .k87,x=>((x:DIns).Op,(x:DIns).A,(x:DIns).N)
 | .k98,x=>((x:DExit).Why,(x:DExit).Page,(x:DExit).What.Op,(x:DExit).What.A,(x:DExit).What.N)
 | .k109,x=>((x:DEntry).There,(x:DEntry).Write,(x:DEntry).User,(x:DEntry).Page)
 | .k121,x=>((x:DShade).There,(x:DShade).Write,(x:DShade).User,(x:DShade).Page,(x:DShade).Frame,(x:DShade).Ready)
 | .k1036,x=>((x:DCore).Regs,(x:DCore).Pc,(x:DCore).Root,(x:DCore).Vector,(x:DCore).Saved,(x:DCore).SavedUser,(x:DCore).Cause,(x:DCore).Bad,(x:DCore).Timer,(x:DCore).Waits,(x:DCore).User,(x:DCore).On,(x:DCore).Stopped)
 | .k1039,x=>((x:DGuest).Live,(x:DGuest).C.Regs,(x:DGuest).C.Pc,(x:DGuest).C.Root,(x:DGuest).C.Vector,(x:DGuest).C.Saved,(x:DGuest).C.SavedUser,(x:DGuest).C.Cause,(x:DGuest).C.Bad,(x:DGuest).C.Timer,(x:DGuest).C.Waits,(x:DGuest).C.User,(x:DGuest).C.On,(x:DGuest).C.Stopped,(x:DGuest).Pages,(x:DGuest).In,(x:DGuest).Out)
 | .k1042,x=>((x:DBare).C.Regs,(x:DBare).C.Pc,(x:DBare).C.Root,(x:DBare).C.Vector,(x:DBare).C.Saved,(x:DBare).C.SavedUser,(x:DBare).C.Cause,(x:DBare).C.Bad,(x:DBare).C.Timer,(x:DBare).C.Waits,(x:DBare).C.User,(x:DBare).C.On,(x:DBare).C.Stopped,(x:DBare).Mem,(x:DBare).In,(x:DBare).Out)
 | .k1071,x=>((x:Dl20Rd).b,(x:Dl20Rd).p)
 | .k2026,x=>((x:DHost).Words,(x:DHost).Guests)
def mkK:∀k,Tup tG (lfK k)->TyT k
 | .k3,a0=>a0
 | .k4,a0=>a0
 | .k5,a0=>a0
 | .k26,(a0,a1)=>(DHost.mk a0 a1)
 | .k36,(a0,a1,a2,a3,a4,a5,a6,a7,a8,a9,a10,a11,a12)=>(DCore.mk a0 a1 a2 a3 a4 a5 a6 a7 a8 a9 a10 a11 a12)
 | .k39,(a0,a1,a2,a3,a4,a5,a6,a7,a8,a9,a10,a11,a12,a13,a14,a15,a16)=>(DGuest.mk a0 (DCore.mk a1 a2 a3 a4 a5 a6 a7 a8 a9 a10 a11 a12 a13) a14 a15 a16)
 | .k42,(a0,a1,a2,a3,a4,a5,a6,a7,a8,a9,a10,a11,a12,a13,a14,a15)=>(DBare.mk (DCore.mk a0 a1 a2 a3 a4 a5 a6 a7 a8 a9 a10 a11 a12) a13 a14 a15)
 | .k59,(a0,a1,a2)=>(DSlot.mk a0 a1 a2)
 | .k71,(a0,a1)=>(Dl20Rd.mk a0 a1)
 | .k87,(a0,a1,a2)=>(DIns.mk a0 a1 a2)
 | .k98,(a0,a1,a2,a3,a4)=>(DExit.mk a0 a1 (DIns.mk a2 a3 a4))
 | .k109,(a0,a1,a2,a3)=>(DEntry.mk a0 a1 a2 a3)
 | .k121,(a0,a1,a2,a3,a4,a5)=>(DShade.mk a0 a1 a2 a3 a4 a5)
 | .k1036,(a0,a1,a2,a3,a4,a5,a6,a7,a8,a9,a10,a11,a12)=>(DCore.mk a0 a1 a2 a3 a4 a5 a6 a7 a8 a9 a10 a11 a12)
 | .k1039,(a0,a1,a2,a3,a4,a5,a6,a7,a8,a9,a10,a11,a12,a13,a14,a15,a16)=>(DGuest.mk a0 (DCore.mk a1 a2 a3 a4 a5 a6 a7 a8 a9 a10 a11 a12 a13) a14 a15 a16)
 | .k1042,(a0,a1,a2,a3,a4,a5,a6,a7,a8,a9,a10,a11,a12,a13,a14,a15)=>(DBare.mk (DCore.mk a0 a1 a2 a3 a4 a5 a6 a7 a8 a9 a10 a11 a12) a13 a14 a15)
 | .k1071,(a0,a1)=>(Dl20Rd.mk a0 a1)
 | .k2026,(a0,a1)=>(DHost.mk a0 a1)
def bHw(x:DHost):List AV:=[.bor (List.length x.Words) (fl (eI .i64) x.Words),.bor (List.length x.Guests) (fl lJ x.Guests)]
theorem bKd:∀x,aH (bHw x)=true:=λx=>by simp only[bHw,aH,AV.noRef,Bool.and_self,aD cK,aD rC]
def avK:∀k,TyT k->List AV
 | .k3=>eI .i64
 | .k4=>eB
 | .k5=>eI .u8
 | .k26=>sW
 | .k36=>aCr
 | .k39=>qI
 | .k42=>aEh
 | .k59=>hC
 | .k71=>aDz
 | .k87=>aMc
 | .k98=>aMb
 | .k109=>aEr
 | .k121=>aFl
 | .k1036=>aIf
 | .k1039=>lJ
 | .k1042=>aIi
 | .k1071=>aIw
 | .k2026=>bHw
theorem clK:∀k x,plK k=true->aU (avK k x)=true
 | .k3,x,_=>fK x
 | .k4,x,_=>bIe x
 | .k5,x,_=>fK x
 | .k26,x,_=>aMt x
 | .k36,x,_=>aXy x
 | .k39,x,_=>aMg x
 | .k42,x,_=>aVf x
 | .k59,x,_=>aEl x
 | .k71,x,_=>aVr x
 | .k87,x,_=>aWu x
 | .k98,x,_=>aXl x
 | .k109,x,_=>aTm x
 | .k121,x,_=>aRu x
 | .k1036,_,h=>by cases h
 | .k1039,_,h=>by cases h
 | .k1042,_,h=>by cases h
 | .k1071,_,h=>by cases h
 | .k2026,_,h=>by cases h
theorem nrK:∀k x,aH (avK k x)=true
 | .k3,x=>cK x
 | .k4,x=>bAq x
 | .k5,x=>cK x
 | .k26,x=>aFe x
 | .k36,x=>aFo x
 | .k39,x=>zA x
 | .k42,x=>aEo x
 | .k59,x=>mF x
 | .k71,x=>aFg x
 | .k87,x=>aEs x
 | .k98,x=>aEq x
 | .k109,x=>aBl x
 | .k121,x=>aAy x
 | .k1036,x=>aEz x
 | .k1039,x=>rC x
 | .k1042,x=>aEn x
 | .k1071,x=>aEw x
 | .k2026,x=>bKd x
theorem bQm:∀k,plK k=true->(lfK k).all (plL tG)=true
 | .k3,_=>rfl
 | .k4,_=>rfl
 | .k5,_=>rfl
 | .k26,_=>rfl
 | .k36,_=>rfl
 | .k39,_=>rfl
 | .k42,_=>rfl
 | .k59,_=>rfl
 | .k71,_=>rfl
 | .k87,_=>rfl
 | .k98,_=>rfl
 | .k109,_=>rfl
 | .k121,_=>rfl
 | .k1036,h=>by cases h
 | .k1039,h=>by cases h
 | .k1042,h=>by cases h
 | .k1071,h=>by cases h
 | .k2026,h=>by cases h
theorem bPk:∀k,elK k=true->(lfK k).all (elL tG)=true
 | .k3,_=>rfl
 | .k4,_=>rfl
 | .k5,_=>rfl
 | .k26,_=>rfl
 | .k36,_=>rfl
 | .k39,_=>rfl
 | .k42,_=>rfl
 | .k59,_=>rfl
 | .k71,_=>rfl
 | .k87,_=>rfl
 | .k98,_=>rfl
 | .k109,_=>rfl
 | .k121,_=>rfl
 | .k1036,_=>rfl
 | .k1039,_=>rfl
 | .k1042,_=>rfl
 | .k1071,_=>rfl
 | .k2026,h=>by cases h
theorem bQc:∀k,elK k=true->plK (kk (unK k))=true
 | .k3,_=>rfl
 | .k4,_=>rfl
 | .k5,_=>rfl
 | .k26,_=>rfl
 | .k36,_=>rfl
 | .k39,_=>rfl
 | .k42,_=>rfl
 | .k59,_=>rfl
 | .k71,_=>rfl
 | .k87,_=>rfl
 | .k98,_=>rfl
 | .k109,_=>rfl
 | .k121,_=>rfl
 | .k1036,_=>rfl
 | .k1039,_=>rfl
 | .k1042,_=>rfl
 | .k1071,_=>rfl
 | .k2026,h=>by cases h
theorem thK:∀k x,elK k=true->(avK k x).map AV.thaw=avK (kk (unK k)) (cast (tuK k) x)
 | .k3,x,_=>by kernel_rfl
 | .k4,x,_=>by kernel_rfl
 | .k5,x,_=>by kernel_rfl
 | .k26,x,_=>by kernel_rfl
 | .k36,x,_=>by kernel_rfl
 | .k39,x,_=>by kernel_rfl
 | .k42,x,_=>by kernel_rfl
 | .k59,x,_=>by kernel_rfl
 | .k71,x,_=>by kernel_rfl
 | .k87,x,_=>by kernel_rfl
 | .k98,x,_=>by kernel_rfl
 | .k109,x,_=>by kernel_rfl
 | .k121,x,_=>by kernel_rfl
 | .k1036,x,_=>by kernel_rfl
 | .k1039,x,_=>by kernel_rfl
 | .k1042,x,_=>by kernel_rfl
 | .k1071,x,_=>by kernel_rfl
 | .k2026,_,h=>by cases h
theorem shK:∀k x,elK k=true->Shal (avK k x)
 | .k3,x,_=>mO (fJ x)
 | .k4,x,_=>mO (bIg x)
 | .k5,x,_=>mO (fJ x)
 | .k26,x,_=>mO (aWs x)
 | .k36,x,_=>mO (aXp x)
 | .k39,x,_=>mO (aXs x)
 | .k42,x,_=>mO (aXg x)
 | .k59,x,_=>mO (aEy x)
 | .k71,x,_=>mO (aWd x)
 | .k87,x,_=>mO (aVs x)
 | .k98,x,_=>mO (aVq x)
 | .k109,x,_=>mO (aTo x)
 | .k121,x,_=>mO (aPq x)
 | .k1036,x,_=>bKh x
 | .k1039,x,_=>bJp x
 | .k1042,x,_=>bJl x
 | .k1071,x,_=>bIw x
 | .k2026,_,h=>by cases h
theorem ckK{a b:Prop}(h:a)(e:a=b:=by kernel_rfl):b:=e▸h
theorem bPb:∀k,elK k=true->nS (avK k) (λx=>avK (kk (unK k)) (cast (tuK k) x))
 | .k3,_=>ckK (kP (c:=eI .i64) fJ fK)
 | .k4,_=>ckK (kP (c:=eB) bIg bIe)
 | .k5,_=>ckK (kP (c:=eI .u8) fJ fK)
 | .k26,_=>ckK (kP (c:=sW) aWs aMt)
 | .k36,_=>ckK (kP (c:=aCr) aXp aXy)
 | .k39,_=>ckK (kP (c:=qI) aXs aMg)
 | .k42,_=>ckK (kP (c:=aEh) aXg aVf)
 | .k59,_=>ckK (kP (c:=hC) aEy aEl)
 | .k71,_=>ckK (kP (c:=aDz) aWd aVr)
 | .k87,_=>ckK (kP (c:=aMc) aVs aWu)
 | .k98,_=>ckK (kP (c:=aMb) aVq aXl)
 | .k109,_=>ckK (kP (c:=aEr) aTo aTm)
 | .k121,_=>ckK (kP (c:=aFl) aPq aRu)
 | .k1036,_=>ckK bKk
 | .k1039,_=>ckK bKp
 | .k1042,_=>ckK bJa
 | .k1071,_=>ckK bKv
 | .k2026,h=>by cases h
def tG1:TS1:=⟨tG,λc=>prK (kk c),λc=>mkK (kk c),λc=>avK (kk c)⟩
theorem bQh:∀k x,avK k x=trs tG1 (bJ tG (lfK k) (prK k x))
 | .k3,x=>by kernel_rfl
 | .k4,x=>by kernel_rfl
 | .k5,x=>by kernel_rfl
 | .k26,x=>by kernel_rfl
 | .k36,x=>by kernel_rfl
 | .k39,x=>by kernel_rfl
 | .k42,x=>by kernel_rfl
 | .k59,x=>by kernel_rfl
 | .k71,x=>by kernel_rfl
 | .k87,x=>by kernel_rfl
 | .k98,x=>by kernel_rfl
 | .k109,x=>by kernel_rfl
 | .k121,x=>by kernel_rfl
 | .k1036,x=>by kernel_rfl
 | .k1039,x=>by kernel_rfl
 | .k1042,x=>by kernel_rfl
 | .k1071,x=>by kernel_rfl
 | .k2026,x=>by kernel_rfl
theorem bPl:∀k t,prK k (mkK k t)=t
 | .k3,t=>by kernel_rfl
 | .k4,t=>by kernel_rfl
 | .k5,t=>by kernel_rfl
 | .k26,t=>by kernel_rfl
 | .k36,t=>by kernel_rfl
 | .k39,t=>by kernel_rfl
 | .k42,t=>by kernel_rfl
 | .k59,t=>by kernel_rfl
 | .k71,t=>by kernel_rfl
 | .k87,t=>by kernel_rfl
 | .k98,t=>by kernel_rfl
 | .k109,t=>by kernel_rfl
 | .k121,t=>by kernel_rfl
 | .k1036,t=>by kernel_rfl
 | .k1039,t=>by kernel_rfl
 | .k1042,t=>by kernel_rfl
 | .k1071,t=>by kernel_rfl
 | .k2026,t=>by kernel_rfl
theorem bQk:∀k,0<(lfK k).length
 | .k3=>by decide
 | .k4=>by decide
 | .k5=>by decide
 | .k26=>by decide
 | .k36=>by decide
 | .k39=>by decide
 | .k42=>by decide
 | .k59=>by decide
 | .k71=>by decide
 | .k87=>by decide
 | .k98=>by decide
 | .k109=>by decide
 | .k121=>by decide
 | .k1036=>by decide
 | .k1039=>by decide
 | .k1042=>by decide
 | .k1071=>by decide
 | .k2026=>by decide
def tS:TS2:=⟨tG1,λc x=>bQh (kk c) x,λc t=>bPl (kk c) t,λc=>bQk (kk c),λc x=>clK (kk c) x,λc x=>nrK (kk c) x,λc=>bQm (kk c),λc=>bPk (kk c),λc x=>thK (kk c) x,λc x=>shK (kk c) x,λc=>bPb (kk c),λc=>bQc (kk c)⟩
abbrev Sok(f:Nat)(g:Sg tG):Prop:=SgP tG1 Tryz.prog f (avR tG1 g.r) g.ps [] g.F
abbrev Sjk(f:Nat)(g:Sw tG):Prop:=SjP tG1 Tryz.prog f g.r g.qs g.qs [] TH.emp 0 g.F
abbrev Sop(f:Nat)(g:So tG):Prop:=SoP tG1 Tryz.prog f g.c g.ps [] g.F
def cxL(l:List (Nat×Sx tG)):Ctx tG:=λk=>match l with
 |[]=>none
 |(f,s)::l=>match Nat.beq f k with|true=>some s|false=>cxL l k
def CxP:List (Nat×Sx tG)->Prop
 |[]=>True
 |(f,s)::l=>bMm tG1 Tryz.prog f s/\CxP l
theorem aSr:∀{l:List (Nat×Sx tG)},CxP l->oR tG1 Tryz.prog (cxL l)
 |[],_=>λf s h=>by simp only[cxL]at h;cases h
 |(f0,s0)::l,hl=>λf s h=>by simp only[cxL]at h;split at h;{rename_i e;have:=Nat.eq_of_beq_eq_true e;subst this;cases h;exact hl.1};{exact aSr hl.2 f s h}
theorem sgx{f:Nat}{g:Sg tG}(l:List (Nat×Sx tG))(hl:CxP l)(A:An)(h:aZs tG1 (cxL l) (vA Tryz.prog f) A g.r g.ps [] 0=g.F)(h1:(iC Tryz.prog f).isSome=true)(h2:(Nat.ble g.ps.length (vA Tryz.prog f).ntmps&&wfR tG g.r&&g.ps.all (wfA tG))=true):Sok f g:=sg (τ:=tS) (aSr hl) f A g.r g.ps g.F h h1 h2
theorem sgy{f:Nat}{g:Sw tG}(l:List (Nat×Sx tG))(hl:CxP l)(A:An)(h:aYd tG1 (cxL l) (vA Tryz.prog f) A g.r g.qs g.qs [] TH.emp 0 0=g.F)(h1:(iC Tryz.prog f).isSome=true)(h2:(Nat.ble g.qs.length (vA Tryz.prog f).ntmps&&wfR tG g.r&&g.qs.all (wfQ tG))=true):Sjk f g:=sgw (τ:=tS) (aSr hl) f A g.r g.qs g.F h h1 h2
theorem kc{a b:Prop}(h:a)(e:a=b:=by kernel_rfl):b:=e▸h
end Go.Proofs.YtobbmlnagjhofaaGreat
