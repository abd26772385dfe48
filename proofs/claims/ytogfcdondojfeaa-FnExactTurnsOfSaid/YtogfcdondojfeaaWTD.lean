/- The types of the typed machine. Made by program. -/
import Derived.Test.YtogfcdondojfeaaWT5
import Derived.Test.YtogfcdondojfeaaDE
import Derived.Test.YtogfcdondojfeaaProg
namespace Go.Proofs.Ytogfcdondojfeaa
open Go.RowKit
set_option maxRecDepth 100000
set_option linter.all false
set_option maxHeartbeats 0
inductive TyK where
 | k3
 | k4
 | k5
 | k26
 | k45
 | k47
 | k79
 | k83
 | k85
 | k91
 | k93
 | k98
 | k114
 | k1079
 | k1083
 | k1085
 | k1091
 | k2026
def kk:Nat→TyK
 | 3=>.k3
 | 4=>.k4
 | 5=>.k5
 | 26=>.k26
 | 45=>.k45
 | 47=>.k47
 | 79=>.k79
 | 83=>.k83
 | 85=>.k85
 | 91=>.k91
 | 93=>.k93
 | 98=>.k98
 | 114=>.k114
 | 1079=>.k1079
 | 1083=>.k1083
 | 1085=>.k1085
 | 1091=>.k1091
 | 2026=>.k2026
 | _=>.k3
def TyT:TyK→Type
 | .k3=>Int
 | .k4=>Bool
 | .k5=>Int
 | .k26=>DHost
 | .k45=>DShade
 | .k47=>DLine
 | .k79=>Dl20Rd
 | .k83=>DCore
 | .k85=>DBare
 | .k91=>DGuest
 | .k93=>DSlot
 | .k98=>DEntry
 | .k114=>DIns
 | .k1079=>Dl20Rd
 | .k1083=>DCore
 | .k1085=>DBare
 | .k1091=>DGuest
 | .k2026=>DHost
@[reducible] def inK : ∀ k, Inhabited (TyT k)
 | .k3=>⟨(default:Int)⟩
 | .k4=>⟨(default:Bool)⟩
 | .k5=>⟨(default:Int)⟩
 | .k26=>⟨(default:DHost)⟩
 | .k45=>⟨(default:DShade)⟩
 | .k47=>⟨(default:DLine)⟩
 | .k79=>⟨(default:Dl20Rd)⟩
 | .k83=>⟨(default:DCore)⟩
 | .k85=>⟨(default:DBare)⟩
 | .k91=>⟨(default:DGuest)⟩
 | .k93=>⟨(default:DSlot)⟩
 | .k98=>⟨(default:DEntry)⟩
 | .k114=>⟨(default:DIns)⟩
 | .k1079=>⟨(default:Dl20Rd)⟩
 | .k1083=>⟨(default:DCore)⟩
 | .k1085=>⟨(default:DBare)⟩
 | .k1091=>⟨(default:DGuest)⟩
 | .k2026=>⟨(default:DHost)⟩
def lfK:TyK→List Lf
 | .k3=>[.i .i64]
 | .k4=>[.b]
 | .k5=>[.i .u8]
 | .k26=>[.row 3,.row 91]
 | .k45=>[.b,.b,.b,.i .i64,.i .i64,.b]
 | .k47=>[.i .i64,.i .i64,.b,.b,.b,.i .i64,.i .i64,.b]
 | .k79=>[.row 5,.i .i64]
 | .k83=>[.row 3,.i .i64,.i .i64,.i .i64,.i .i64,.b,.i .i64,.i .i64,.i .i64,.b,.b,.b,.b]
 | .k85=>[.row 3,.i .i64,.i .i64,.i .i64,.i .i64,.b,.i .i64,.i .i64,.i .i64,.b,.b,.b,.b,.row 3,.row 3,.row 3]
 | .k91=>[.b,.row 3,.i .i64,.i .i64,.i .i64,.i .i64,.b,.i .i64,.i .i64,.i .i64,.b,.b,.b,.b,.row 93,.row 3,.row 3]
 | .k93=>[.i .i64,.b,.b]
 | .k98=>[.b,.b,.b,.i .i64]
 | .k114=>[.i .i64,.i .i64,.i .i64]
 | .k1079=>[.own 5,.i .i64]
 | .k1083=>[.own 3,.i .i64,.i .i64,.i .i64,.i .i64,.b,.i .i64,.i .i64,.i .i64,.b,.b,.b,.b]
 | .k1085=>[.own 3,.i .i64,.i .i64,.i .i64,.i .i64,.b,.i .i64,.i .i64,.i .i64,.b,.b,.b,.b,.own 3,.own 3,.own 3]
 | .k1091=>[.b,.own 3,.i .i64,.i .i64,.i .i64,.i .i64,.b,.i .i64,.i .i64,.i .i64,.b,.b,.b,.b,.own 93,.own 3,.own 3]
 | .k2026=>[.row 3,.row 1091]
def unK:TyK→Nat
 | .k3=>3
 | .k4=>4
 | .k5=>5
 | .k26=>26
 | .k45=>45
 | .k47=>47
 | .k79=>79
 | .k83=>83
 | .k85=>85
 | .k91=>91
 | .k93=>93
 | .k98=>98
 | .k114=>114
 | .k1079=>79
 | .k1083=>83
 | .k1085=>85
 | .k1091=>91
 | .k2026=>26
theorem tuK:∀ k,TyT k=TyT (kk (unK k))
 | .k3=>rfl
 | .k4=>rfl
 | .k5=>rfl
 | .k26=>rfl
 | .k45=>rfl
 | .k47=>rfl
 | .k79=>rfl
 | .k83=>rfl
 | .k85=>rfl
 | .k91=>rfl
 | .k93=>rfl
 | .k98=>rfl
 | .k114=>rfl
 | .k1079=>rfl
 | .k1083=>rfl
 | .k1085=>rfl
 | .k1091=>rfl
 | .k2026=>rfl
def plK:TyK→Bool
 | .k3=>true
 | .k4=>true
 | .k5=>true
 | .k26=>true
 | .k45=>true
 | .k47=>true
 | .k79=>true
 | .k83=>true
 | .k85=>true
 | .k91=>true
 | .k93=>true
 | .k98=>true
 | .k114=>true
 | .k1079=>false
 | .k1083=>false
 | .k1085=>false
 | .k1091=>false
 | .k2026=>false
def elK:TyK→Bool
 | .k3=>true
 | .k4=>true
 | .k5=>true
 | .k26=>true
 | .k45=>true
 | .k47=>true
 | .k79=>true
 | .k83=>true
 | .k85=>true
 | .k91=>true
 | .k93=>true
 | .k98=>true
 | .k114=>true
 | .k1079=>true
 | .k1083=>true
 | .k1085=>true
 | .k1091=>true
 | .k2026=>false
def tG:TS:=⟨fun c=>TyT (kk c),fun c=>inK (kk c),fun c=>c % 1000,fun c=>lfK (kk c),fun c=>unK (kk c),fun c=>c+1000,fun c=>tuK (kk c),fun c=>plK (kk c),fun c=>elK (kk c)⟩
def prK:∀ k,TyT k→Tup tG (lfK k)
 | .k3,x=>((x:Int))
 | .k4,x=>((x:Bool))
 | .k5,x=>((x:Int))
 | .k26,x=>((x:DHost).Words,(x:DHost).Guests)
 | .k45,x=>((x:DShade).There,(x:DShade).Write,(x:DShade).User,(x:DShade).Page,(x:DShade).Frame,(x:DShade).Ready)
 | .k47,x=>((x:DLine).Tag,(x:DLine).At,(x:DLine).What.There,(x:DLine).What.Write,(x:DLine).What.User,(x:DLine).What.Page,(x:DLine).What.Frame,(x:DLine).What.Ready)
 | .k79,x=>((x:Dl20Rd).b,(x:Dl20Rd).p)
 | .k83,x=>((x:DCore).Regs,(x:DCore).Pc,(x:DCore).Root,(x:DCore).Vector,(x:DCore).Saved,(x:DCore).SavedUser,(x:DCore).Cause,(x:DCore).Bad,(x:DCore).Timer,(x:DCore).Waits,(x:DCore).User,(x:DCore).On,(x:DCore).Stopped)
 | .k85,x=>((x:DBare).C.Regs,(x:DBare).C.Pc,(x:DBare).C.Root,(x:DBare).C.Vector,(x:DBare).C.Saved,(x:DBare).C.SavedUser,(x:DBare).C.Cause,(x:DBare).C.Bad,(x:DBare).C.Timer,(x:DBare).C.Waits,(x:DBare).C.User,(x:DBare).C.On,(x:DBare).C.Stopped,(x:DBare).Mem,(x:DBare).In,(x:DBare).Out)
 | .k91,x=>((x:DGuest).Live,(x:DGuest).C.Regs,(x:DGuest).C.Pc,(x:DGuest).C.Root,(x:DGuest).C.Vector,(x:DGuest).C.Saved,(x:DGuest).C.SavedUser,(x:DGuest).C.Cause,(x:DGuest).C.Bad,(x:DGuest).C.Timer,(x:DGuest).C.Waits,(x:DGuest).C.User,(x:DGuest).C.On,(x:DGuest).C.Stopped,(x:DGuest).Pages,(x:DGuest).In,(x:DGuest).Out)
 | .k93,x=>((x:DSlot).Frame,(x:DSlot).Write,(x:DSlot).Dirty)
 | .k98,x=>((x:DEntry).There,(x:DEntry).Write,(x:DEntry).User,(x:DEntry).Page)
 | .k114,x=>((x:DIns).Op,(x:DIns).A,(x:DIns).N)
 | .k1079,x=>((x:Dl20Rd).b,(x:Dl20Rd).p)
 | .k1083,x=>((x:DCore).Regs,(x:DCore).Pc,(x:DCore).Root,(x:DCore).Vector,(x:DCore).Saved,(x:DCore).SavedUser,(x:DCore).Cause,(x:DCore).Bad,(x:DCore).Timer,(x:DCore).Waits,(x:DCore).User,(x:DCore).On,(x:DCore).Stopped)
 | .k1085,x=>((x:DBare).C.Regs,(x:DBare).C.Pc,(x:DBare).C.Root,(x:DBare).C.Vector,(x:DBare).C.Saved,(x:DBare).C.SavedUser,(x:DBare).C.Cause,(x:DBare).C.Bad,(x:DBare).C.Timer,(x:DBare).C.Waits,(x:DBare).C.User,(x:DBare).C.On,(x:DBare).C.Stopped,(x:DBare).Mem,(x:DBare).In,(x:DBare).Out)
 | .k1091,x=>((x:DGuest).Live,(x:DGuest).C.Regs,(x:DGuest).C.Pc,(x:DGuest).C.Root,(x:DGuest).C.Vector,(x:DGuest).C.Saved,(x:DGuest).C.SavedUser,(x:DGuest).C.Cause,(x:DGuest).C.Bad,(x:DGuest).C.Timer,(x:DGuest).C.Waits,(x:DGuest).C.User,(x:DGuest).C.On,(x:DGuest).C.Stopped,(x:DGuest).Pages,(x:DGuest).In,(x:DGuest).Out)
 | .k2026,x=>((x:DHost).Words,(x:DHost).Guests)
def mkK:∀ k,Tup tG (lfK k)→TyT k
 | .k3,a0=>a0
 | .k4,a0=>a0
 | .k5,a0=>a0
 | .k26,(a0,a1)=>(DHost.mk a0 a1)
 | .k45,(a0,a1,a2,a3,a4,a5)=>(DShade.mk a0 a1 a2 a3 a4 a5)
 | .k47,(a0,a1,a2,a3,a4,a5,a6,a7)=>(DLine.mk a0 a1 (DShade.mk a2 a3 a4 a5 a6 a7))
 | .k79,(a0,a1)=>(Dl20Rd.mk a0 a1)
 | .k83,(a0,a1,a2,a3,a4,a5,a6,a7,a8,a9,a10,a11,a12)=>(DCore.mk a0 a1 a2 a3 a4 a5 a6 a7 a8 a9 a10 a11 a12)
 | .k85,(a0,a1,a2,a3,a4,a5,a6,a7,a8,a9,a10,a11,a12,a13,a14,a15)=>(DBare.mk (DCore.mk a0 a1 a2 a3 a4 a5 a6 a7 a8 a9 a10 a11 a12) a13 a14 a15)
 | .k91,(a0,a1,a2,a3,a4,a5,a6,a7,a8,a9,a10,a11,a12,a13,a14,a15,a16)=>(DGuest.mk a0 (DCore.mk a1 a2 a3 a4 a5 a6 a7 a8 a9 a10 a11 a12 a13) a14 a15 a16)
 | .k93,(a0,a1,a2)=>(DSlot.mk a0 a1 a2)
 | .k98,(a0,a1,a2,a3)=>(DEntry.mk a0 a1 a2 a3)
 | .k114,(a0,a1,a2)=>(DIns.mk a0 a1 a2)
 | .k1079,(a0,a1)=>(Dl20Rd.mk a0 a1)
 | .k1083,(a0,a1,a2,a3,a4,a5,a6,a7,a8,a9,a10,a11,a12)=>(DCore.mk a0 a1 a2 a3 a4 a5 a6 a7 a8 a9 a10 a11 a12)
 | .k1085,(a0,a1,a2,a3,a4,a5,a6,a7,a8,a9,a10,a11,a12,a13,a14,a15)=>(DBare.mk (DCore.mk a0 a1 a2 a3 a4 a5 a6 a7 a8 a9 a10 a11 a12) a13 a14 a15)
 | .k1091,(a0,a1,a2,a3,a4,a5,a6,a7,a8,a9,a10,a11,a12,a13,a14,a15,a16)=>(DGuest.mk a0 (DCore.mk a1 a2 a3 a4 a5 a6 a7 a8 a9 a10 a11 a12 a13) a14 a15 a16)
 | .k2026,(a0,a1)=>(DHost.mk a0 a1)
def P_26 (x:DHost):List AV:=[.bor (List.length x.Words) (fl (eI .i64) x.Words),.bor (List.length x.Guests) (fl O_91 x.Guests)]
theorem nr_P_26:∀ x,noRefs (P_26 x)=true:=fun x=>by simp only [P_26,noRefs,AV.noRef,Bool.and_self,noRefs_fl nr_eI,noRefs_fl nr_O_91]
def avK:∀ k,TyT k→List AV
 | .k3=>eI .i64
 | .k4=>eB
 | .k5=>eI .u8
 | .k26=>B_26
 | .k45=>C_45
 | .k47=>C_47
 | .k79=>B_79
 | .k83=>B_83
 | .k85=>B_85
 | .k91=>B_91
 | .k93=>C_93
 | .k98=>C_98
 | .k114=>C_114
 | .k1079=>O_79
 | .k1083=>O_83
 | .k1085=>O_85
 | .k1091=>O_91
 | .k2026=>P_26
theorem clK:∀ k x,plK k=true→cleans (avK k x)=true
 | .k3,x,_=>cl_eI x
 | .k4,x,_=>cl_eB x
 | .k5,x,_=>cl_eI x
 | .k26,x,_=>cl_B_26 x
 | .k45,x,_=>cl_C_45 x
 | .k47,x,_=>cl_C_47 x
 | .k79,x,_=>cl_B_79 x
 | .k83,x,_=>cl_B_83 x
 | .k85,x,_=>cl_B_85 x
 | .k91,x,_=>cl_B_91 x
 | .k93,x,_=>cl_C_93 x
 | .k98,x,_=>cl_C_98 x
 | .k114,x,_=>cl_C_114 x
 | .k1079,_,h=>by cases h
 | .k1083,_,h=>by cases h
 | .k1085,_,h=>by cases h
 | .k1091,_,h=>by cases h
 | .k2026,_,h=>by cases h
theorem nrK:∀ k x,noRefs (avK k x)=true
 | .k3,x=>nr_eI x
 | .k4,x=>nr_eB x
 | .k5,x=>nr_eI x
 | .k26,x=>nr_B_26 x
 | .k45,x=>nr_C_45 x
 | .k47,x=>nr_C_47 x
 | .k79,x=>nr_B_79 x
 | .k83,x=>nr_B_83 x
 | .k85,x=>nr_B_85 x
 | .k91,x=>nr_B_91 x
 | .k93,x=>nr_C_93 x
 | .k98,x=>nr_C_98 x
 | .k114,x=>nr_C_114 x
 | .k1079,x=>nr_O_79 x
 | .k1083,x=>nr_O_83 x
 | .k1085,x=>nr_O_85 x
 | .k1091,x=>nr_O_91 x
 | .k2026,x=>nr_P_26 x
theorem plfK:∀ k,plK k=true→(lfK k).all (plL tG)=true
 | .k3,_=>rfl
 | .k4,_=>rfl
 | .k5,_=>rfl
 | .k26,_=>rfl
 | .k45,_=>rfl
 | .k47,_=>rfl
 | .k79,_=>rfl
 | .k83,_=>rfl
 | .k85,_=>rfl
 | .k91,_=>rfl
 | .k93,_=>rfl
 | .k98,_=>rfl
 | .k114,_=>rfl
 | .k1079,h=>by cases h
 | .k1083,h=>by cases h
 | .k1085,h=>by cases h
 | .k1091,h=>by cases h
 | .k2026,h=>by cases h
theorem elfK:∀ k,elK k=true→(lfK k).all (elL tG)=true
 | .k3,_=>rfl
 | .k4,_=>rfl
 | .k5,_=>rfl
 | .k26,_=>rfl
 | .k45,_=>rfl
 | .k47,_=>rfl
 | .k79,_=>rfl
 | .k83,_=>rfl
 | .k85,_=>rfl
 | .k91,_=>rfl
 | .k93,_=>rfl
 | .k98,_=>rfl
 | .k114,_=>rfl
 | .k1079,_=>rfl
 | .k1083,_=>rfl
 | .k1085,_=>rfl
 | .k1091,_=>rfl
 | .k2026,h=>by cases h
theorem pluK:∀ k,elK k=true→plK (kk (unK k))=true
 | .k3,_=>rfl
 | .k4,_=>rfl
 | .k5,_=>rfl
 | .k26,_=>rfl
 | .k45,_=>rfl
 | .k47,_=>rfl
 | .k79,_=>rfl
 | .k83,_=>rfl
 | .k85,_=>rfl
 | .k91,_=>rfl
 | .k93,_=>rfl
 | .k98,_=>rfl
 | .k114,_=>rfl
 | .k1079,_=>rfl
 | .k1083,_=>rfl
 | .k1085,_=>rfl
 | .k1091,_=>rfl
 | .k2026,h=>by cases h
theorem thK:∀ k x,elK k=true→(avK k x).map AV.thaw=avK (kk (unK k)) (cast (tuK k) x)
 | .k3,x,_=>by kernel_rfl
 | .k4,x,_=>by kernel_rfl
 | .k5,x,_=>by kernel_rfl
 | .k26,x,_=>by kernel_rfl
 | .k45,x,_=>by kernel_rfl
 | .k47,x,_=>by kernel_rfl
 | .k79,x,_=>by kernel_rfl
 | .k83,x,_=>by kernel_rfl
 | .k85,x,_=>by kernel_rfl
 | .k91,x,_=>by kernel_rfl
 | .k93,x,_=>by kernel_rfl
 | .k98,x,_=>by kernel_rfl
 | .k114,x,_=>by kernel_rfl
 | .k1079,x,_=>by kernel_rfl
 | .k1083,x,_=>by kernel_rfl
 | .k1085,x,_=>by kernel_rfl
 | .k1091,x,_=>by kernel_rfl
 | .k2026,_,h=>by cases h
theorem shK:∀ k x,elK k=true→Shal (avK k x)
 | .k3,x,_=>sh_no (no_eI x)
 | .k4,x,_=>sh_no (no_eB x)
 | .k5,x,_=>sh_no (no_eI x)
 | .k26,x,_=>sh_no (no_B_26 x)
 | .k45,x,_=>sh_no (no_C_45 x)
 | .k47,x,_=>sh_no (no_C_47 x)
 | .k79,x,_=>sh_no (no_B_79 x)
 | .k83,x,_=>sh_no (no_B_83 x)
 | .k85,x,_=>sh_no (no_B_85 x)
 | .k91,x,_=>sh_no (no_B_91 x)
 | .k93,x,_=>sh_no (no_C_93 x)
 | .k98,x,_=>sh_no (no_C_98 x)
 | .k114,x,_=>sh_no (no_C_114 x)
 | .k1079,x,_=>sh_O_79 x
 | .k1083,x,_=>sh_O_83 x
 | .k1085,x,_=>sh_O_85 x
 | .k1091,x,_=>sh_O_91 x
 | .k2026,_,h=>by cases h
theorem ckK {a b:Prop} (h:a) (e:a=b:=by kernel_rfl):b:=e ▸ h
theorem clo0K:∀ k,elK k=true→CloEnc (avK k) (fun x=>avK (kk (unK k)) (cast (tuK k) x))
 | .k3,_=>ckK (clo_pl (c:=eI .i64) no_eI cl_eI)
 | .k4,_=>ckK (clo_pl (c:=eB) no_eB cl_eB)
 | .k5,_=>ckK (clo_pl (c:=eI .u8) no_eI cl_eI)
 | .k26,_=>ckK (clo_pl (c:=B_26) no_B_26 cl_B_26)
 | .k45,_=>ckK (clo_pl (c:=C_45) no_C_45 cl_C_45)
 | .k47,_=>ckK (clo_pl (c:=C_47) no_C_47 cl_C_47)
 | .k79,_=>ckK (clo_pl (c:=B_79) no_B_79 cl_B_79)
 | .k83,_=>ckK (clo_pl (c:=B_83) no_B_83 cl_B_83)
 | .k85,_=>ckK (clo_pl (c:=B_85) no_B_85 cl_B_85)
 | .k91,_=>ckK (clo_pl (c:=B_91) no_B_91 cl_B_91)
 | .k93,_=>ckK (clo_pl (c:=C_93) no_C_93 cl_C_93)
 | .k98,_=>ckK (clo_pl (c:=C_98) no_C_98 cl_C_98)
 | .k114,_=>ckK (clo_pl (c:=C_114) no_C_114 cl_C_114)
 | .k1079,_=>ckK oc_O_79
 | .k1083,_=>ckK oc_O_83
 | .k1085,_=>ckK oc_O_85
 | .k1091,_=>ckK oc_O_91
 | .k2026,h=>by cases h
def tG1:TS1:=⟨tG,fun c=>prK (kk c),fun c=>mkK (kk c),fun c=>avK (kk c)⟩
theorem avEK:∀ k x,avK k x=trs tG1 (encL tG (lfK k) (prK k x))
 | .k3,x=>by kernel_rfl
 | .k4,x=>by kernel_rfl
 | .k5,x=>by kernel_rfl
 | .k26,x=>by kernel_rfl
 | .k45,x=>by kernel_rfl
 | .k47,x=>by kernel_rfl
 | .k79,x=>by kernel_rfl
 | .k83,x=>by kernel_rfl
 | .k85,x=>by kernel_rfl
 | .k91,x=>by kernel_rfl
 | .k93,x=>by kernel_rfl
 | .k98,x=>by kernel_rfl
 | .k114,x=>by kernel_rfl
 | .k1079,x=>by kernel_rfl
 | .k1083,x=>by kernel_rfl
 | .k1085,x=>by kernel_rfl
 | .k1091,x=>by kernel_rfl
 | .k2026,x=>by kernel_rfl
theorem mkPK:∀ k t,prK k (mkK k t)=t
 | .k3,t=>by kernel_rfl
 | .k4,t=>by kernel_rfl
 | .k5,t=>by kernel_rfl
 | .k26,t=>by kernel_rfl
 | .k45,t=>by kernel_rfl
 | .k47,t=>by kernel_rfl
 | .k79,t=>by kernel_rfl
 | .k83,t=>by kernel_rfl
 | .k85,t=>by kernel_rfl
 | .k91,t=>by kernel_rfl
 | .k93,t=>by kernel_rfl
 | .k98,t=>by kernel_rfl
 | .k114,t=>by kernel_rfl
 | .k1079,t=>by kernel_rfl
 | .k1083,t=>by kernel_rfl
 | .k1085,t=>by kernel_rfl
 | .k1091,t=>by kernel_rfl
 | .k2026,t=>by kernel_rfl
theorem posK:∀ k,0<(lfK k).length
 | .k3=>by decide
 | .k4=>by decide
 | .k5=>by decide
 | .k26=>by decide
 | .k45=>by decide
 | .k47=>by decide
 | .k79=>by decide
 | .k83=>by decide
 | .k85=>by decide
 | .k91=>by decide
 | .k93=>by decide
 | .k98=>by decide
 | .k114=>by decide
 | .k1079=>by decide
 | .k1083=>by decide
 | .k1085=>by decide
 | .k1091=>by decide
 | .k2026=>by decide
def tS:TS2:=⟨tG1,fun c x=>avEK (kk c) x,fun c t=>mkPK (kk c) t,fun c=>posK (kk c),fun c x=>clK (kk c) x,fun c x=>nrK (kk c) x,fun c=>plfK (kk c),fun c=>elfK (kk c),fun c x=>thK (kk c) x,fun c x=>shK (kk c) x,fun c=>clo0K (kk c),fun c=>pluK (kk c)⟩
abbrev Sok (f:Nat) (g:Sg tG):Prop:=SgP tG1 Try.prog f (avR tG1 g.r) g.ps [] g.F
abbrev Sjk (f:Nat) (g:Sw tG):Prop:=SjP tG1 Try.prog f g.r g.qs g.qs [] TH.emp 0 g.F
def cxL (l:List (Nat × Sx tG)):Ctx tG:=fun k=>match l with
 | []=>none
 | (f,s)::l=>match Nat.beq f k with | true=>some s | false=>cxL l k
def CxP:List (Nat × Sx tG)→Prop
 | []=>True
 | (f,s)::l=>SxOk tG1 Try.prog f s∧CxP l
theorem cxL_ok:∀ {l:List (Nat × Sx tG)},CxP l→CtxOk tG1 Try.prog (cxL l)
 | [],_=>fun f s h=>by simp only [cxL] at h; cases h
 | (f0,s0)::l,hl=>fun f s h=>by
  simp only [cxL] at h
  split at h
  · rename_i e; have:=Nat.eq_of_beq_eq_true e; subst this; cases h; exact hl.1
  · exact cxL_ok hl.2 f s h
theorem sgx {f:Nat} {g:Sg tG} (l:List (Nat × Sx tG)) (hl:CxP l) (A:An) (h:runF tG1 (cxL l) (lfOf Try.prog f) A g.r g.ps [] 0=g.F) (h1:(lowFun Try.prog f).isSome=true) (h2:(Nat.ble g.ps.length (lfOf Try.prog f).ntmps && wfR tG g.r && g.ps.all (wfA tG))=true):Sok f g:=sg (τ:=tS) (cxL_ok hl) f A g.r g.ps g.F h h1 h2
theorem sgy {f:Nat} {g:Sw tG} (l:List (Nat × Sx tG)) (hl:CxP l) (A:An) (h:runW tG1 (cxL l) (lfOf Try.prog f) A g.r g.qs g.qs [] TH.emp 0 0=g.F) (h1:(lowFun Try.prog f).isSome=true) (h2:(Nat.ble g.qs.length (lfOf Try.prog f).ntmps && wfR tG g.r && g.qs.all (wfQ tG))=true):Sjk f g:=sgw (τ:=tS) (cxL_ok hl) f A g.r g.qs g.F h h1 h2
theorem kc {a b:Prop} (h:a) (e:a=b:=by kernel_rfl):b:=e ▸ h
end Go.Proofs.Ytogfcdondojfeaa
