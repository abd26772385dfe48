/- Plain functions of the program, and that it hands back what they say. Made by program. -/
import Derived.Test.YtkjabgefacfpfaaWTD
import Derived.Test.YtkjabgefacfpfaaProg
import Derived.Test.YtkjabgefacfpfaaWD1
import Derived.Test.YtkjabgefacfpfaaWGH1
import Derived.Test.YtkjabgefacfpfaaWHF1
import Derived.Test.YtkjabgefacfpfaaWHO1
namespace Go.Proofs.Ytkjabgefacfpfaa
open Go.RowKit
set_option maxRecDepth 100000
set_option linter.all false
set_option maxHeartbeats 0
noncomputable def aIt (v1:Dl20Rd×DHost)(s2:(List DGuest)×(List Int)×Int):Option (Dl20Rd×DHost):=some ((Dl20Rd.mk s2.2.1 s2.2.2),DHost.mk v1.2.Words s2.1)
noncomputable def wX (s5:(List Int)×Int×(List DGuest)×Int)(s6:(List Int)×Int×(List DGuest)):Option (LO ((List Int)×Int×(List DGuest)×Int) (JO ((List DGuest)×(List Int)×Int) (Dl20Rd×DHost))):=some (.next (s6.1,s6.2.1,s6.2.2,w64 (s5.2.2.2+(1:Int))))
noncomputable def xG (s7:(List Int)×Int×(List DGuest)×Int)(s8:(List Int)×Int×(List DGuest)):Option (LO ((List Int)×Int×(List DGuest)×Int) (JO ((List Int)×Int×(List DGuest)) (LO ((List Int)×Int×(List DGuest)×Int) (JO ((List DGuest)×(List Int)×Int) (Dl20Rd×DHost))))):=some (.next (s8.1,s8.2.1,s8.2.2,w64 (s7.2.2.2+(1:Int))))
noncomputable def qT (v1:Dl20Rd×DHost)(s5:(List Int)×Int×(List DGuest)×Int)(s7:(List Int)×Int×(List DGuest)×Int):Option (LO ((List Int)×Int×(List DGuest)×Int) (JO ((List Int)×Int×(List DGuest)) (LO ((List Int)×Int×(List DGuest)×Int) (JO ((List DGuest)×(List Int)×Int) (Dl20Rd×DHost))))):=
 grd ((0:Int)<=s5.2.2.2/\s5.2.2.2<((List.length s7.2.2.1:Nat):Int)) (cond (decide (s7.2.2.2<((List.length (List.getD s7.2.2.1 (Int.toNat s5.2.2.2) default).Pages:Nat):Int)))
  (Option.bind (Option.bind (lK (DHost.mk v1.2.Words s7.2.2.1)) λv9=>
   grd ((0:Int)<=s5.2.2.2/\s5.2.2.2<((List.length s7.2.2.1:Nat):Int)) (grd ((0:Int)<=s7.2.2.2/\s7.2.2.2<((List.length (List.getD s7.2.2.1 (Int.toNat s5.2.2.2) default).Pages:Nat):Int)) (cond (decide ((List.getD (List.getD s7.2.2.1 (Int.toNat s5.2.2.2) default).Pages (Int.toNat s7.2.2.2) default).Frame<(0:Int)))
    (cond (decide ((0:Int)<((List.length v9:Nat):Int)))
     (Option.bind (aA (Dl20Rd.mk s7.1 s7.2.1) (6:Int)) λv10=>
     cond (decide ((0:Int)<v10.2))
      (grd ((0:Int)<=s5.2.2.2/\s5.2.2.2<((List.length s7.2.2.1:Nat):Int)) (grd ((0:Int)<=(0:Int)/\(0:Int)<((List.length v9:Nat):Int)) (grd ((0:Int)<=s7.2.2.2/\s7.2.2.2<((List.length (List.getD s7.2.2.1 (Int.toNat s5.2.2.2) default).Pages:Nat):Int)) (some (.go (v10.1.b,v10.1.p,List.set s7.2.2.1 (Int.toNat s5.2.2.2) (DGuest.mk (List.getD s7.2.2.1 (Int.toNat s5.2.2.2) default).Live (DCore.mk ((List.getD s7.2.2.1 (Int.toNat s5.2.2.2) default).C).Regs ((List.getD s7.2.2.1 (Int.toNat s5.2.2.2) default).C).Pc ((List.getD s7.2.2.1 (Int.toNat s5.2.2.2) default).C).Root ((List.getD s7.2.2.1 (Int.toNat s5.2.2.2) default).C).Vector ((List.getD s7.2.2.1 (Int.toNat s5.2.2.2) default).C).Saved ((List.getD s7.2.2.1 (Int.toNat s5.2.2.2) default).C).SavedUser ((List.getD s7.2.2.1 (Int.toNat s5.2.2.2) default).C).Cause ((List.getD s7.2.2.1 (Int.toNat s5.2.2.2) default).C).Bad ((List.getD s7.2.2.1 (Int.toNat s5.2.2.2) default).C).Timer ((List.getD s7.2.2.1 (Int.toNat s5.2.2.2) default).C).Waits ((List.getD s7.2.2.1 (Int.toNat s5.2.2.2) default).C).User ((List.getD s7.2.2.1 (Int.toNat s5.2.2.2) default).C).On ((List.getD s7.2.2.1 (Int.toNat s5.2.2.2) default).C).Stopped) (List.set (List.getD s7.2.2.1 (Int.toNat s5.2.2.2) default).Pages (Int.toNat s7.2.2.2) (DSlot.mk (List.getD v9 0 default) true false)) (List.getD s7.2.2.1 (Int.toNat s5.2.2.2) default).In (List.getD s7.2.2.1 (Int.toNat s5.2.2.2) default).Out)))))))
      (some (.go (v10.1.b,v10.1.p,s7.2.2.1))))
     (some (.go (s7.1,s7.2.1,s7.2.2.1))))
    (some (.go (s7.1,s7.2.1,s7.2.2.1)))))) λj8=>
   JO.run j8 (xG s7))
  (some (.ret (.go (s7.1,s7.2.1,s7.2.2.1)))))
noncomputable def xD (v1:Dl20Rd×DHost)(s5:(List Int)×Int×(List DGuest)×Int):Option (LO ((List Int)×Int×(List DGuest)×Int) (JO ((List DGuest)×(List Int)×Int) (Dl20Rd×DHost))):=
 cond (decide (s5.2.2.2<(3:Int)))
  (Option.bind (Option.bind (iter (qT v1 s5) (s5.1,s5.2.1,s5.2.2.1,(0:Int))) LO.val) λj6=>
   JO.run j6 (wX s5))
  (some (.ret (.go (s5.2.2.1,s5.1,s5.2.1))))
noncomputable def jY (x_r:Dl20Rd):Option (Dl20Rd×DHost):=
 Option.bind (qC x_r (25:Int)) λv1=>
 Option.bind (Option.bind (aA v1.1 (4:Int)) λv3=>
  cond (decide (v3.2=(0:Int)))
   (Option.bind (gH v1.2) λv4=>
   cond v4
    (Option.bind (iter (xD v1) (v3.1.b,v3.1.p,v1.2.Guests,(0:Int))) LO.val)
    (some (.go (v1.2.Guests,v3.1.b,v3.1.p))))
   (some (.go (v1.2.Guests,v3.1.b,v3.1.p)))) λj2=>
  JO.run j2 (aIt v1)
noncomputable def g39:Sw tG:=⟨[.pt 109],.one (.st 2026),jY⟩
theorem s39:Sjk 39 g39:=sgy [(68,.w g68),(76,.w g76),(45,.r g45),(85,.r g85)] ⟨s68,s76,s45,s85,trivial⟩ (.s .o (.s .o (.j ⟨[2,3],[0],[(.c 3 1,.ro 1041),(.d 0 0,.rb 5),(.d 0 1,.i .i64)]⟩ (.s .o (.c (.s .o (.k (.l ⟨[0,2,3],[],[(.c 0 0,.rb 5),(.c 0 1,.i .i64),(.c 3 1,.ro 1041),(.s 4,.i .i64)]⟩ (.s .o (.j ⟨[0,2,3,4],[],[(.c 0 0,.rb 5),(.c 0 1,.i .i64),(.c 3 1,.ro 1041)]⟩ (.k (.s .o (.k (.l ⟨[0,2,3,4],[],[(.c 0 0,.rb 5),(.c 0 1,.i .i64),(.c 3 1,.ro 1041),(.s 5,.i .i64)]⟩ (.s .o (.j ⟨[0,2,3,4,5],[],[(.c 0 0,.rb 5),(.c 0 1,.i .i64),(.c 3 1,.ro 1041)]⟩ .o .o)))))) .o))))) .o)) .o))) kr kr kr
theorem aAv{x_r:Dl20Rd}{R_:Dl20Rd×DHost}(hh:jY x_r=some R_):Inl Try.prog 39 [.ptr 0 [] 0] [(0,some (rB109 x_r))] 1 (.agg [.sref 1 [] 0 (List.length R_.2.Words) 1,.sref 2 [] 0 (List.length R_.2.Guests) 17]) [(2,some (rO41 R_.2.Guests)),(1,some (rI_3 R_.2.Words)),(0,some ⟨109,[bo (eI .u8) R_.1.b,.int .i64 R_.1.p]⟩)] 3:=kc (s39 x_r R_ hh)
end Go.Proofs.Ytkjabgefacfpfaa
