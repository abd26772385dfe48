/- Plain functions of the program, and that it hands back what they say. Made by program. -/
import Derived.Test.YtkjabgefacfpfaaWTD
import Derived.Test.YtkjabgefacfpfaaProg
import Derived.Test.YtkjabgefacfpfaaWAZ1
import Derived.Test.YtkjabgefacfpfaaWHC1
import Derived.Test.YtkjabgefacfpfaaWHD1
import Derived.Test.YtkjabgefacfpfaaWHO1
import Derived.Test.YtkjabgefacfpfaaWSO1
namespace Go.Proofs.Ytkjabgefacfpfaa
open Go.RowKit
set_option maxRecDepth 100000
set_option linter.all false
set_option maxHeartbeats 0
noncomputable def mD (x_h:DHost):Option DHost:=
 Option.bind (dG x_h.Words) λv1=>
 Option.bind (eZ x_h.Guests) λv2=>
 some (DHost.mk v1 v2)
noncomputable def g56:Sg tG:=⟨[.st 26],.one (.st 2026),mD⟩
theorem s56:Sok 56 g56:=sgx [(41,.r g41),(87,.r g87)] ⟨s41,s87,trivial⟩ .o kr kr kr
noncomputable def kM (x_words:List Int)(x_s:DSlot):Option Bool:=
 cond (!x_s.Dirty)
  (Option.bind (nM x_words x_s) λv1=>
  Option.bind (oN v1) λv2=>
  some v2)
  (some false)
noncomputable def g57:Sg tG:=⟨[.row 3,.st 43],.one .b,kM⟩
theorem s57:Sok 57 g57:=sgx [(98,.r g98),(97,.r g97)] ⟨s98,s97,trivial⟩ .o kr kr kr
noncomputable def aFy (v2:DHost)(s3:List DGuest):Option DHost:=some (DHost.mk v2.Words s3)
noncomputable def vR (s4:(List DGuest)×Int)(s5:List DGuest):Option (LO ((List DGuest)×Int) (JO (List DGuest) DHost)):=some (.next (s5,w64 (s4.2+(1:Int))))
noncomputable def pS (s6:(List DGuest)×Int)(s7:List DGuest):Option (LO ((List DGuest)×Int) (JO (List DGuest) (LO ((List DGuest)×Int) (JO (List DGuest) DHost)))):=some (.next (s7,w64 (s6.2+(1:Int))))
noncomputable def oZ (x_h:DHost)(s4:(List DGuest)×Int)(s6:(List DGuest)×Int):Option (LO ((List DGuest)×Int) (JO (List DGuest) (LO ((List DGuest)×Int) (JO (List DGuest) DHost)))):=
 cond (decide (s6.2<((List.length (List.getD x_h.Guests (Int.toNat s4.2) default).Pages:Nat):Int)))
  (Option.bind (grd ((0:Int)<=s6.2/\s6.2<((List.length (List.getD x_h.Guests (Int.toNat s4.2) default).Pages:Nat):Int)) (Option.bind (kM x_h.Words (DSlot.mk (List.getD (List.getD x_h.Guests (Int.toNat s4.2) default).Pages (Int.toNat s6.2) default).Frame (List.getD (List.getD x_h.Guests (Int.toNat s4.2) default).Pages (Int.toNat s6.2) default).Write (List.getD (List.getD x_h.Guests (Int.toNat s4.2) default).Pages (Int.toNat s6.2) default).Dirty)) λv8=>
   cond v8
    (grd ((0:Int)<=s4.2/\s4.2<((List.length s6.1:Nat):Int)) (grd ((0:Int)<=s6.2/\s6.2<((List.length (List.getD s6.1 (Int.toNat s4.2) default).Pages:Nat):Int)) (some (.go (List.set s6.1 (Int.toNat s4.2) (DGuest.mk (List.getD s6.1 (Int.toNat s4.2) default).Live (DCore.mk ((List.getD s6.1 (Int.toNat s4.2) default).C).Regs ((List.getD s6.1 (Int.toNat s4.2) default).C).Pc ((List.getD s6.1 (Int.toNat s4.2) default).C).Root ((List.getD s6.1 (Int.toNat s4.2) default).C).Vector ((List.getD s6.1 (Int.toNat s4.2) default).C).Saved ((List.getD s6.1 (Int.toNat s4.2) default).C).SavedUser ((List.getD s6.1 (Int.toNat s4.2) default).C).Cause ((List.getD s6.1 (Int.toNat s4.2) default).C).Bad ((List.getD s6.1 (Int.toNat s4.2) default).C).Timer ((List.getD s6.1 (Int.toNat s4.2) default).C).Waits ((List.getD s6.1 (Int.toNat s4.2) default).C).User ((List.getD s6.1 (Int.toNat s4.2) default).C).On ((List.getD s6.1 (Int.toNat s4.2) default).C).Stopped) (List.set (List.getD s6.1 (Int.toNat s4.2) default).Pages (Int.toNat s6.2) (DSlot.mk (-1:Int) false false)) (List.getD s6.1 (Int.toNat s4.2) default).In (List.getD s6.1 (Int.toNat s4.2) default).Out))))))
    (some (.go s6.1)))) λj7=>
   JO.run j7 (pS s6))
  (some (.ret (.go s6.1)))
noncomputable def lQ (x_h:DHost)(s4:(List DGuest)×Int):Option (LO ((List DGuest)×Int) (JO (List DGuest) DHost)):=
 cond (decide (s4.2<((List.length x_h.Guests:Nat):Int)))
  (Option.bind (grd ((0:Int)<=s4.2/\s4.2<((List.length x_h.Guests:Nat):Int)) (Option.bind (iter (oZ x_h s4) (s4.1,(0:Int))) LO.val)) λj5=>
   JO.run j5 (vR s4))
  (some (.ret (.go s4.1)))
noncomputable def fS (x_h:DHost):Option DHost:=
 Option.bind (dT x_h) λv1=>
 cond (!v1)
  (some (DHost.mk ([]:List Int) ([]:List DGuest)))
  (Option.bind (mD x_h) λv2=>
  Option.bind (Option.bind (iter (lQ x_h) (v2.Guests,(0:Int))) LO.val) λj3=>
   JO.run j3 (aFy v2))
noncomputable def g21:Sg tG:=⟨[.st 26],.one (.st 2026),fS⟩
theorem s21:Sok 21 g21:=sgx [(14,.r g14),(56,.r g56),(57,.r g57)] ⟨s14,s56,s57,trivial⟩ (.s .o (.s .o (.s .o (.j ⟨[2,3],[],[(.c 3 1,.ro 1041)]⟩ (.s .o (.k (.l ⟨[1,2,3,15,16],[],[(.c 3 1,.ro 1041),(.s 17,.i .i64)]⟩ (.s .o (.s .o (.j ⟨[1,2,3,15,16,17],[],[(.c 3 1,.ro 1041)]⟩ (.k (.s .o (.s .o (.k (.l ⟨[1,2,3,4,15,16,17,23,24],[],[(.c 3 1,.ro 1041),(.s 25,.i .i64)]⟩ (.s .o (.s .o (.j ⟨[1,2,3,4,15,16,17,23,24,25],[],[(.c 3 1,.ro 1041)]⟩ .o .o)))))))) .o)))))) .o)))) kr kr kr
theorem yR{x_h:DHost}{R_:DHost}(hh:fS x_h=some R_):Fn Try.prog 21 [.agg (yU x_h)] (.agg [.own 3 1 (List.length R_.Words) (fl (eI .i64) R_.Words),.own 41 17 (List.length R_.Guests) (fl bV R_.Guests)]):=kc (s21 x_h R_ hh)
noncomputable def aFk (v2:DHost)(s3:List DGuest):Option DHost:=some (DHost.mk v2.Words s3)
noncomputable def vW (s4:(List DGuest)×Int)(s5:List DGuest):Option (LO ((List DGuest)×Int) (JO (List DGuest) DHost)):=some (.next (s5,w64 (s4.2+(1:Int))))
noncomputable def lF (s6:(List DGuest)×Int)(s7:List DGuest):Option (LO ((List DGuest)×Int) (JO (List DGuest) (LO ((List DGuest)×Int) (JO (List DGuest) DHost)))):=some (.next (s7,w64 (s6.2+(1:Int))))
noncomputable def vS (x_h:DHost)(s4:(List DGuest)×Int)(s6:(List DGuest)×Int)(s8:Bool):Option (JO (List DGuest) (LO ((List DGuest)×Int) (JO (List DGuest) (LO ((List DGuest)×Int) (JO (List DGuest) DHost))))):=
 cond s8
  (grd ((0:Int)<=s4.2/\s4.2<((List.length x_h.Guests:Nat):Int)) (grd ((0:Int)<=s6.2/\s6.2<((List.length (List.getD x_h.Guests (Int.toNat s4.2) default).Pages:Nat):Int)) (cond (!(List.getD (List.getD x_h.Guests (Int.toNat s4.2) default).Pages (Int.toNat s6.2) default).Dirty)
   (grd ((0:Int)<=s4.2/\s4.2<((List.length s6.1:Nat):Int)) (grd ((0:Int)<=s6.2/\s6.2<((List.length (List.getD s6.1 (Int.toNat s4.2) default).Pages:Nat):Int)) (some (.go (List.set s6.1 (Int.toNat s4.2) (DGuest.mk (List.getD s6.1 (Int.toNat s4.2) default).Live (DCore.mk ((List.getD s6.1 (Int.toNat s4.2) default).C).Regs ((List.getD s6.1 (Int.toNat s4.2) default).C).Pc ((List.getD s6.1 (Int.toNat s4.2) default).C).Root ((List.getD s6.1 (Int.toNat s4.2) default).C).Vector ((List.getD s6.1 (Int.toNat s4.2) default).C).Saved ((List.getD s6.1 (Int.toNat s4.2) default).C).SavedUser ((List.getD s6.1 (Int.toNat s4.2) default).C).Cause ((List.getD s6.1 (Int.toNat s4.2) default).C).Bad ((List.getD s6.1 (Int.toNat s4.2) default).C).Timer ((List.getD s6.1 (Int.toNat s4.2) default).C).Waits ((List.getD s6.1 (Int.toNat s4.2) default).C).User ((List.getD s6.1 (Int.toNat s4.2) default).C).On ((List.getD s6.1 (Int.toNat s4.2) default).C).Stopped) (List.set (List.getD s6.1 (Int.toNat s4.2) default).Pages (Int.toNat s6.2) (DSlot.mk (-1:Int) false false)) (List.getD s6.1 (Int.toNat s4.2) default).In (List.getD s6.1 (Int.toNat s4.2) default).Out))))))
   (some (.go s6.1)))))
  (some (.go s6.1))
noncomputable def dL (x_h:DHost)(s4:(List DGuest)×Int)(s6:(List DGuest)×Int)(s9:Bool×Int):Option (LO (Bool×Int) (JO Bool (JO (List DGuest) (LO ((List DGuest)×Int) (JO (List DGuest) (LO ((List DGuest)×Int) (JO (List DGuest) DHost))))))):=
 cond (decide (s9.2<(8:Int)))
  (cond s9.1
   (grd ((0:Int)<=(w64 ((w64 ((List.getD (List.getD x_h.Guests (Int.toNat s4.2) default).Pages (Int.toNat s6.2) default).Frame*(8:Int)))+s9.2))/\(w64 ((w64 ((List.getD (List.getD x_h.Guests (Int.toNat s4.2) default).Pages (Int.toNat s6.2) default).Frame*(8:Int)))+s9.2))<((List.length x_h.Words:Nat):Int)) (some (.next ((decide ((List.getD x_h.Words (Int.toNat (w64 ((w64 ((List.getD (List.getD x_h.Guests (Int.toNat s4.2) default).Pages (Int.toNat s6.2) default).Frame*(8:Int)))+s9.2))) default)=(0:Int))),w64 (s9.2+(1:Int))))))
   (some (.ret (.go s9.1))))
  (some (.ret (.go s9.1)))
noncomputable def pN (x_h:DHost)(s4:(List DGuest)×Int)(s6:(List DGuest)×Int):Option (LO ((List DGuest)×Int) (JO (List DGuest) (LO ((List DGuest)×Int) (JO (List DGuest) DHost)))):=
 grd ((0:Int)<=s4.2/\s4.2<((List.length x_h.Guests:Nat):Int)) (cond (decide (s6.2<((List.length (List.getD x_h.Guests (Int.toNat s4.2) default).Pages:Nat):Int)))
  (Option.bind (grd ((0:Int)<=s4.2/\s4.2<((List.length x_h.Guests:Nat):Int)) (grd ((0:Int)<=s6.2/\s6.2<((List.length (List.getD x_h.Guests (Int.toNat s4.2) default).Pages:Nat):Int)) (Option.bind (Option.bind (iter (dL x_h s4 s6) ((decide ((0:Int)<=(List.getD (List.getD x_h.Guests (Int.toNat s4.2) default).Pages (Int.toNat s6.2) default).Frame)),(0:Int))) LO.val) λj8=>
   JO.run j8 (vS x_h s4 s6)))) λj7=>
   JO.run j7 (lF s6))
  (some (.ret (.go s6.1))))
noncomputable def lP (x_h:DHost)(s4:(List DGuest)×Int):Option (LO ((List DGuest)×Int) (JO (List DGuest) DHost)):=
 cond (decide (s4.2<(3:Int)))
  (Option.bind (Option.bind (iter (pN x_h s4) (s4.1,(0:Int))) LO.val) λj5=>
   JO.run j5 (vW s4))
  (some (.ret (.go s4.1)))
noncomputable def iO (x_h:DHost):Option DHost:=
 Option.bind (gH x_h) λv1=>
 cond (!v1)
  (some (DHost.mk ([]:List Int) ([]:List DGuest)))
  (Option.bind (kY x_h) λv2=>
  Option.bind (Option.bind (iter (lP x_h) (v2.Guests,(0:Int))) LO.val) λj3=>
   JO.run j3 (aFk v2))
noncomputable def g22:Sg tG:=⟨[.st 26],.one (.st 2026),iO⟩
theorem s22:Sok 22 g22:=sgx [(45,.r g45),(46,.r g46)] ⟨s45,s46,trivial⟩ (.s .o (.s .o (.s .o (.j ⟨[2,3],[],[(.c 3 1,.ro 1041)]⟩ (.s .o (.k (.l ⟨[1,2,3],[],[(.c 3 1,.ro 1041),(.s 4,.i .i64)]⟩ (.s .o (.j ⟨[1,2,3,4],[],[(.c 3 1,.ro 1041)]⟩ (.k (.s .o (.k (.l ⟨[1,2,3,4],[],[(.c 3 1,.ro 1041),(.s 5,.i .i64)]⟩ (.s .o (.j ⟨[1,2,3,4,5],[],[(.c 3 1,.ro 1041)]⟩ (.k (.s .o (.s .o (.j ⟨[1,2,3,4,5],[],[(.s 7,.b)]⟩ (.s .o (.k (.l ⟨[1,2,3,4,5,6],[],[(.s 7,.b),(.s 8,.i .i64)]⟩ .o))) .o)))) .o)))))) .o))))) .o)))) kr kr kr
theorem aKm{x_h:DHost}{R_:DHost}(hh:iO x_h=some R_):Fn Try.prog 22 [.agg (yU x_h)] (.agg [.own 3 1 (List.length R_.Words) (fl (eI .i64) R_.Words),.own 41 17 (List.length R_.Guests) (fl bV R_.Guests)]):=kc (s22 x_h R_ hh)
end Go.Proofs.Ytkjabgefacfpfaa
