/- Plain functions of the program, and that it hands back what they say. Made by program. -/
import Derived.Test.YtkjabgefacfpfaaWTD
import Derived.Test.YtkjabgefacfpfaaProg
import Derived.Test.YtkjabgefacfpfaaWHC1
namespace Go.Proofs.Ytkjabgefacfpfaa
open Go.RowKit
set_option maxRecDepth 100000
set_option linter.all false
set_option maxHeartbeats 0
noncomputable def lW (x_pages:List DSlot):Option (List DSlot):=grd ((0:Int)<=((List.length x_pages:Nat):Int)/\((List.length x_pages:Nat):Int)*16<=2^47/\((List.length x_pages:Nat):Int)<=2^47) (some (over (List.replicate (Int.toNat ((List.length x_pages:Nat):Int)) (DSlot.mk (0:Int) false false)) 0 (List.length (List.replicate (Int.toNat ((List.length x_pages:Nat):Int)) (DSlot.mk (0:Int) false false))) x_pages))
noncomputable def bMw:Sg tG:=⟨[.row 43],.one (.row 43),lW⟩
theorem bPc:Sok 135 bMw:=sgx [] trivial .o kr kr kr
noncomputable def hZ (x_guest:DGuest):Option DGuest:=
 cond (!x_guest.Live)
  (some (DGuest.mk false (DCore.mk ([]:List Int) (0:Int) (0:Int) (0:Int) (0:Int) false (0:Int) (0:Int) (0:Int) false false false false) ([]:List DSlot) ([]:List Int) ([]:List Int)))
  (Option.bind (dG x_guest.C.Regs) λv1=>
  Option.bind (lW x_guest.Pages) λv2=>
  Option.bind (dG x_guest.In) λv3=>
  Option.bind (dG x_guest.Out) λv4=>
  some (DGuest.mk x_guest.Live (DCore.mk v1 x_guest.C.Pc x_guest.C.Root x_guest.C.Vector x_guest.C.Saved x_guest.C.SavedUser x_guest.C.Cause x_guest.C.Bad x_guest.C.Timer x_guest.C.Waits x_guest.C.User x_guest.C.On x_guest.C.Stopped) v2 v3 v4))
noncomputable def bMb:Sg tG:=⟨[.st 41],.one (.st 41),hZ⟩
theorem bOj:Sok 114 bMb:=sgx [(41,.r g41),(135,.r bMw)] ⟨s41,bPc,trivial⟩ .o kr kr kr
noncomputable def aBg  (s1:List DGuest):Option (List DGuest):=some s1
noncomputable def fD (x_guests:List DGuest)(s2:(List DGuest)×Int):Option (LO ((List DGuest)×Int) (JO (List DGuest) (List DGuest))):=
 cond (decide (s2.2<((List.length x_guests:Nat):Int)))
  (grd ((0:Int)<=s2.2/\s2.2<((List.length x_guests:Nat):Int)) (Option.bind (hZ (DGuest.mk (List.getD x_guests (Int.toNat s2.2) default).Live (DCore.mk ((List.getD x_guests (Int.toNat s2.2) default).C).Regs ((List.getD x_guests (Int.toNat s2.2) default).C).Pc ((List.getD x_guests (Int.toNat s2.2) default).C).Root ((List.getD x_guests (Int.toNat s2.2) default).C).Vector ((List.getD x_guests (Int.toNat s2.2) default).C).Saved ((List.getD x_guests (Int.toNat s2.2) default).C).SavedUser ((List.getD x_guests (Int.toNat s2.2) default).C).Cause ((List.getD x_guests (Int.toNat s2.2) default).C).Bad ((List.getD x_guests (Int.toNat s2.2) default).C).Timer ((List.getD x_guests (Int.toNat s2.2) default).C).Waits ((List.getD x_guests (Int.toNat s2.2) default).C).User ((List.getD x_guests (Int.toNat s2.2) default).C).On ((List.getD x_guests (Int.toNat s2.2) default).C).Stopped) (List.getD x_guests (Int.toNat s2.2) default).Pages (List.getD x_guests (Int.toNat s2.2) default).In (List.getD x_guests (Int.toNat s2.2) default).Out)) λv3=>
   grd ((0:Int)<=s2.2/\s2.2<((List.length s2.1:Nat):Int)) (some (.next ((List.set s2.1 (Int.toNat s2.2) v3),w64 (s2.2+(1:Int)))))))
  (some (.ret (.go s2.1)))
noncomputable def eZ (x_guests:List DGuest):Option (List DGuest):=
 grd ((0:Int)<=((List.length x_guests:Nat):Int)/\((List.length x_guests:Nat):Int)*176<=2^47/\((List.length x_guests:Nat):Int)<=2^47) (Option.bind (Option.bind (iter (fD x_guests) ((List.replicate (Int.toNat ((List.length x_guests:Nat):Int)) (DGuest.mk false (DCore.mk ([]:List Int) (0:Int) (0:Int) (0:Int) (0:Int) false (0:Int) (0:Int) (0:Int) false false false false) ([]:List DSlot) ([]:List Int) ([]:List Int))),(0:Int))) LO.val) λj1=>
  JO.run j1 aBg)
noncomputable def g87:Sg tG:=⟨[.row 41],.one (.row 1041),eZ⟩
theorem s87:Sok 87 g87:=sgx [(114,.r bMb)] ⟨bOj,trivial⟩ (.s .o (.s (.g [] [] [.fo (.s 3) 0]) (.j ⟨[],[],[(.s 3,.ro 1041)]⟩ (.s .o (.k (.l ⟨[9,10],[],[(.s 3,.ro 1041),(.s 11,.i .i64)]⟩ (.s .o (.s .o (.s (.k (.s .o (.g [] [] [.fo (.s 3) 0]))) .o)))))) .o))) kr kr kr
noncomputable def mR (x_g:DGuest):Option DGuest:=
 cond (!x_g.Live)
  (some (DGuest.mk false (DCore.mk ([]:List Int) (0:Int) (0:Int) (0:Int) (0:Int) false (0:Int) (0:Int) (0:Int) false false false false) ([]:List DSlot) ([]:List Int) ([]:List Int)))
  (Option.bind (nO x_g.C) λv1=>
  grd (List.length x_g.Pages*16<=2^47/\List.length x_g.Pages<=2^47) (grd (List.length x_g.In*8<=2^47/\List.length x_g.In<=2^47) (grd (List.length x_g.Out*8<=2^47/\List.length x_g.Out<=2^47) (some (DGuest.mk true v1 x_g.Pages x_g.In x_g.Out)))))
noncomputable def g93:Sg tG:=⟨[.st 41],.one (.st 41),mR⟩
theorem s93:Sok 93 g93:=sgx [(118,.r bFc)] ⟨bKn,trivial⟩ .o kr kr kr
noncomputable def aJx (x_h:DHost)(s1:List DGuest):Option DHost:=some (DHost.mk (([]:List Int)++x_h.Words) s1)
noncomputable def nL (x_h:DHost)(s2:(List DGuest)×Int):Option (LO ((List DGuest)×Int) (JO (List DGuest) DHost)):=
 cond (decide (s2.2<((List.length x_h.Guests:Nat):Int)))
  (grd ((0:Int)<=s2.2/\s2.2<((List.length x_h.Guests:Nat):Int)) (Option.bind (mR (DGuest.mk (List.getD x_h.Guests (Int.toNat s2.2) default).Live (DCore.mk ((List.getD x_h.Guests (Int.toNat s2.2) default).C).Regs ((List.getD x_h.Guests (Int.toNat s2.2) default).C).Pc ((List.getD x_h.Guests (Int.toNat s2.2) default).C).Root ((List.getD x_h.Guests (Int.toNat s2.2) default).C).Vector ((List.getD x_h.Guests (Int.toNat s2.2) default).C).Saved ((List.getD x_h.Guests (Int.toNat s2.2) default).C).SavedUser ((List.getD x_h.Guests (Int.toNat s2.2) default).C).Cause ((List.getD x_h.Guests (Int.toNat s2.2) default).C).Bad ((List.getD x_h.Guests (Int.toNat s2.2) default).C).Timer ((List.getD x_h.Guests (Int.toNat s2.2) default).C).Waits ((List.getD x_h.Guests (Int.toNat s2.2) default).C).User ((List.getD x_h.Guests (Int.toNat s2.2) default).C).On ((List.getD x_h.Guests (Int.toNat s2.2) default).C).Stopped) (List.getD x_h.Guests (Int.toNat s2.2) default).Pages (List.getD x_h.Guests (Int.toNat s2.2) default).In (List.getD x_h.Guests (Int.toNat s2.2) default).Out)) λv3=>
   grd ((List.length s2.1+1)*176<=2^47/\List.length s2.1+1<=2^47) (some (.next ((s2.1++([v3]:List DGuest)),w64 (s2.2+(1:Int)))))))
  (some (.ret (.go s2.1)))
noncomputable def kY (x_h:DHost):Option DHost:=
 grd ((List.length ([]:List Int)+List.length x_h.Words)*8<=2^47/\List.length ([]:List Int)+List.length x_h.Words<=2^47) (Option.bind (Option.bind (iter (nL x_h) (([]:List DGuest),(0:Int))) LO.val) λj1=>
  JO.run j1 (aJx x_h))
noncomputable def g46:Sg tG:=⟨[.st 26],.one (.st 2026),kY⟩
theorem s46:Sok 46 g46:=sgx [(93,.r g93)] ⟨s93,trivial⟩ (.s .o (.s .o (.j ⟨[2,3],[],[(.c 3 1,.ro 1041)]⟩ (.s .o (.k (.l ⟨[1,2,3],[],[(.c 3 1,.ro 1041),(.s 4,.i .i64)]⟩ (.s .o (.s (.k (.g [] [] [.fo (.c 3 1) 0])) .o))))) .o))) kr kr kr
end Go.Proofs.Ytkjabgefacfpfaa
