/- Plain functions of the program, and that it hands back what they say. Made by program. -/
import Derived.Test.YtbanbjdcgdmkaaaWT
import Derived.Test.YtbanbjdcgdmkaaaProg
import Derived.Test.YtbanbjdcgdmkaaaWD1
import Derived.Test.YtbanbjdcgdmkaaaWG1
import Derived.Test.YtbanbjdcgdmkaaaWHB1
import Derived.Test.YtbanbjdcgdmkaaaWHN1
namespace Go.Proofs.Ytbanbjdcgdmkaaa
open Go.RowKit
set_option maxRecDepth 100000
set_option linter.all false
set_option maxHeartbeats 0
theorem low_spec_l20Host:LW 131 ⟨200,[(.cell 4 true 2)],(.seq (.reg false (rg 131 0)) (.seq (.reg false (rg 131 1)) (.seq (.seq (.reg false (rg 131 2)) (.block 0 (.loop (.seq (.seq (.reg false (rg 131 3)) (.cond (.t 23) .skip (.exit 0))) (.seq (.block 1 (.seq (.reg false (rg 131 4)) (.cond (.t 28) (.regd (rg 131 5) (rg 131 6)) .skip))) (.reg false (rg 131 7))))))) (.seq (.reg false (rg 131 9)) (.seq (.seq (.reg false (rg 131 10)) (.block 2 (.loop (.seq (.seq (.reg false (rg 131 11)) (.cond (.t 40) .skip (.exit 2))) (.seq (.block 3 (.seq (.reg false (rg 131 12)) (.seq (.seq (.reg false (rg 131 13)) (.block 4 (.loop (.seq (.seq (.reg false (rg 131 14)) (.cond (.t 46) .skip (.exit 4))) (.seq (.block 5 (.seq (.seq (.reg false (rg 131 15)) (.cond (.t 55) (.regd (rg 131 16) (rg 131 17)) .skip)) (.seq (.reg false (rg 131 18)) (.cond (.t 71) (.regt (rg 131 19) (rg 131 20)) .skip)))) (.reg false (rg 131 21))))))) (.seq (.reg false (rg 131 23)) (.seq (.reg false (rg 131 24)) (.seq (.reg false (rg 131 25)) (.cond (.t 94) (.reg false (rg 131 26)) .skip))))))) (.reg false (rg 131 27))))))) (.seq (.seq (.reg false (rg 131 29)) (.block 6 (.loop (.seq (.seq (.reg false (rg 131 30)) (.cond (.t 99) .skip (.exit 6))) (.seq (.block 7 (.seq (.reg false (rg 131 31)) (.seq (.reg false (rg 131 32)) (.seq (.reg false (rg 131 33)) (.seq (.reg false (rg 131 34)) (.cond (.t 134) (.seq (.reg false (rg 131 35)) (.regd (rg 131 36) (rg 131 37))) .skip)))))) (.reg false (rg 131 38))))))) (.seq (.seq (.reg false (rg 131 40)) (.cond (.t 169) (.seq (.reg false (rg 131 41)) (.block 8 (.seq (.reg false (rg 131 42)) (.cond (.t 179) (.regd (rg 131 43) (rg 131 44)) (.seq (.reg false (rg 131 45)) (.cond (.t 186) (.reg false (rg 131 46)) (.seq (.reg false (rg 131 47)) (.cond (.t 192) (.reg false (rg 131 48)) (.reg false (rg 131 49)))))))))) .skip)) (.seq (.reg false (rg 131 50)) .ret))))))))⟩:=kr
noncomputable def F_spec_l20Host_j5  (s5:(List Int) × (List Int) × Int × (List DGuest)):Option (Dl20Rd × DHost) :=
 some ((Dl20Rd.mk s5.2.1 s5.2.2.1),(DHost.mk s5.1 s5.2.2.2))
noncomputable def F_spec_l20Host_j4 (x_n:Int) (s3:(List Int) × Int × (List Int) × (List DGuest)) (s4:(List Int) × Int × (List DGuest)):Option (Dl20Rd × DHost) :=
 Option.bind (Option.bind (F___spec_l20Rd__odd (Dl20Rd.mk s4.1 s4.2.1) x_n) fun v6 =>
  cond v6.2
   (Option.bind (F___spec_l20Rd__pick v6.1 (4:Int)) fun v7 =>
   cond (decide (v7.2=(0:Int)))
    (Option.bind (F___spec_l20Rd__pick v7.1 (9:Int)) fun v8 =>
    grd ((0:Int)≤v8.2∧v8.2<(((List.length s3.2.2.1):Nat):Int)) (some (.go ((List.set s3.2.2.1 (Int.toNat v8.2) (4096:Int)),v8.1.b,v8.1.p,s4.2.2))))
    (cond (decide (v7.2=(1:Int)))
     (grd ((0:Int)≤(0:Int)∧(0:Int)≤(2:Int)∧(2:Int)≤(((List.length s4.2.2):Nat):Int)) (some (.go (s3.2.2.1,v7.1.b,v7.1.p,(List.take (Int.toNat (2:Int) - Int.toNat (0:Int)) s4.2.2)))))
     (cond (decide (v7.2=(2:Int)))
      (grd ((0:Int)≤(2:Int)∧(2:Int)<(((List.length s4.2.2):Nat):Int)) (some (.go (s3.2.2.1,v7.1.b,v7.1.p,(List.set s4.2.2 2 (DGuest.mk false (DCore.mk ([]:List Int) (0:Int) (0:Int) (0:Int) (0:Int) false (0:Int) (0:Int) (0:Int) false false false false) ([]:List DSlot) ([(1:Int)]:List Int) ([]:List Int)))))))
      (grd ((0:Int)≤(0:Int)∧(0:Int)<(((List.length s4.2.2):Nat):Int)) (some (.go (s3.2.2.1,v7.1.b,v7.1.p,(List.set s4.2.2 0 (DGuest.mk ((List.getD s4.2.2 0 default).Live) ((List.getD s4.2.2 0 default).C) ([(DSlot.mk (3:Int) true false),(DSlot.mk (3:Int) false false)]:List DSlot) ((List.getD s4.2.2 0 default).In) ((List.getD s4.2.2 0 default).Out))))))))))
   (some (.go (s3.2.2.1,v6.1.b,v6.1.p,s4.2.2)))) fun j5 =>
  JO.run j5 (F_spec_l20Host_j5)
noncomputable def F_spec_l20Host_j11 (s10:(List Int) × Int × (List DGuest) × Int) (s11:(List Int) × Int × (List DGuest)):Option (LO ((List Int) × Int × (List DGuest) × Int) (JO ((List Int) × Int × (List DGuest)) (Dl20Rd × DHost))) :=
 some (.next (s11.1,s11.2.1,s11.2.2,(w64 (s10.2.2.2 - (1:Int)))))
noncomputable def F_spec_l20Host_l10  (s10:(List Int) × Int × (List DGuest) × Int):Option (LO ((List Int) × Int × (List DGuest) × Int) (JO ((List Int) × Int × (List DGuest)) (Dl20Rd × DHost))) :=
 cond (decide ((0:Int)<s10.2.2.2))
  (Option.bind (Option.bind (F___spec_l20Rd__pick (Dl20Rd.mk s10.1 s10.2.1) (3:Int)) fun v12 =>
   Option.bind (F___spec_l20Rd__pick v12.1 (3:Int)) fun v13 =>
   Option.bind (F___spec_l20Rd__pick v13.1 (8:Int)) fun v14 =>
   grd ((0:Int)≤v12.2∧v12.2<(((List.length s10.2.2.1):Nat):Int)) (cond ((List.getD s10.2.2.1 (Int.toNat v12.2) default).Live)
    (grd ((0:Int)≤v13.2∧v13.2<(((List.length s10.2.2.1):Nat):Int)) (cond ((List.getD s10.2.2.1 (Int.toNat v13.2) default).Live)
     (grd ((0:Int)≤v12.2∧v12.2<(((List.length s10.2.2.1):Nat):Int)) (grd ((0:Int)≤v14.2∧v14.2<(((List.length ((List.getD s10.2.2.1 (Int.toNat v12.2) default).Pages)):Nat):Int)) (cond (decide ((0:Int)≤((List.getD ((List.getD s10.2.2.1 (Int.toNat v12.2) default).Pages) (Int.toNat v14.2) default).Frame)))
      (grd ((0:Int)≤v12.2∧v12.2<(((List.length s10.2.2.1):Nat):Int)) (grd ((0:Int)≤v14.2∧v14.2<(((List.length ((List.getD s10.2.2.1 (Int.toNat v12.2) default).Pages)):Nat):Int)) (grd ((0:Int)≤v13.2∧v13.2<(((List.length s10.2.2.1):Nat):Int)) (Option.bind (F___spec_l20Rd__pick v14.1 (8:Int)) fun v15 =>
       grd ((0:Int)≤v12.2∧v12.2<(((List.length s10.2.2.1):Nat):Int)) (grd ((0:Int)≤v14.2∧v14.2<(((List.length ((List.getD s10.2.2.1 (Int.toNat v12.2) default).Pages)):Nat):Int)) (Option.bind (F___spec_l20Rd__pick v15.1 (2:Int)) fun v16 =>
        grd ((0:Int)≤v15.2∧v15.2<(((List.length ((List.getD (List.set s10.2.2.1 (Int.toNat v12.2) (DGuest.mk ((List.getD s10.2.2.1 (Int.toNat v12.2) default).Live) ((List.getD s10.2.2.1 (Int.toNat v12.2) default).C) (List.set ((List.getD s10.2.2.1 (Int.toNat v12.2) default).Pages) (Int.toNat v14.2) (DSlot.mk ((List.getD ((List.getD s10.2.2.1 (Int.toNat v12.2) default).Pages) (Int.toNat v14.2) default).Frame) false ((List.getD ((List.getD s10.2.2.1 (Int.toNat v12.2) default).Pages) (Int.toNat v14.2) default).Dirty))) ((List.getD s10.2.2.1 (Int.toNat v12.2) default).In) ((List.getD s10.2.2.1 (Int.toNat v12.2) default).Out))) (Int.toNat v13.2) default).Pages)):Nat):Int)) (some (.go (v16.1.b,v16.1.p,(List.set (List.set s10.2.2.1 (Int.toNat v12.2) (DGuest.mk ((List.getD s10.2.2.1 (Int.toNat v12.2) default).Live) ((List.getD s10.2.2.1 (Int.toNat v12.2) default).C) (List.set ((List.getD s10.2.2.1 (Int.toNat v12.2) default).Pages) (Int.toNat v14.2) (DSlot.mk ((List.getD ((List.getD s10.2.2.1 (Int.toNat v12.2) default).Pages) (Int.toNat v14.2) default).Frame) false ((List.getD ((List.getD s10.2.2.1 (Int.toNat v12.2) default).Pages) (Int.toNat v14.2) default).Dirty))) ((List.getD s10.2.2.1 (Int.toNat v12.2) default).In) ((List.getD s10.2.2.1 (Int.toNat v12.2) default).Out))) (Int.toNat v13.2) (DGuest.mk ((List.getD (List.set s10.2.2.1 (Int.toNat v12.2) (DGuest.mk ((List.getD s10.2.2.1 (Int.toNat v12.2) default).Live) ((List.getD s10.2.2.1 (Int.toNat v12.2) default).C) (List.set ((List.getD s10.2.2.1 (Int.toNat v12.2) default).Pages) (Int.toNat v14.2) (DSlot.mk ((List.getD ((List.getD s10.2.2.1 (Int.toNat v12.2) default).Pages) (Int.toNat v14.2) default).Frame) false ((List.getD ((List.getD s10.2.2.1 (Int.toNat v12.2) default).Pages) (Int.toNat v14.2) default).Dirty))) ((List.getD s10.2.2.1 (Int.toNat v12.2) default).In) ((List.getD s10.2.2.1 (Int.toNat v12.2) default).Out))) (Int.toNat v13.2) default).Live) ((List.getD (List.set s10.2.2.1 (Int.toNat v12.2) (DGuest.mk ((List.getD s10.2.2.1 (Int.toNat v12.2) default).Live) ((List.getD s10.2.2.1 (Int.toNat v12.2) default).C) (List.set ((List.getD s10.2.2.1 (Int.toNat v12.2) default).Pages) (Int.toNat v14.2) (DSlot.mk ((List.getD ((List.getD s10.2.2.1 (Int.toNat v12.2) default).Pages) (Int.toNat v14.2) default).Frame) false ((List.getD ((List.getD s10.2.2.1 (Int.toNat v12.2) default).Pages) (Int.toNat v14.2) default).Dirty))) ((List.getD s10.2.2.1 (Int.toNat v12.2) default).In) ((List.getD s10.2.2.1 (Int.toNat v12.2) default).Out))) (Int.toNat v13.2) default).C) (List.set ((List.getD (List.set s10.2.2.1 (Int.toNat v12.2) (DGuest.mk ((List.getD s10.2.2.1 (Int.toNat v12.2) default).Live) ((List.getD s10.2.2.1 (Int.toNat v12.2) default).C) (List.set ((List.getD s10.2.2.1 (Int.toNat v12.2) default).Pages) (Int.toNat v14.2) (DSlot.mk ((List.getD ((List.getD s10.2.2.1 (Int.toNat v12.2) default).Pages) (Int.toNat v14.2) default).Frame) false ((List.getD ((List.getD s10.2.2.1 (Int.toNat v12.2) default).Pages) (Int.toNat v14.2) default).Dirty))) ((List.getD s10.2.2.1 (Int.toNat v12.2) default).In) ((List.getD s10.2.2.1 (Int.toNat v12.2) default).Out))) (Int.toNat v13.2) default).Pages) (Int.toNat v15.2) (DSlot.mk ((List.getD ((List.getD s10.2.2.1 (Int.toNat v12.2) default).Pages) (Int.toNat v14.2) default).Frame) false (decide (v16.2=(0:Int))))) ((List.getD (List.set s10.2.2.1 (Int.toNat v12.2) (DGuest.mk ((List.getD s10.2.2.1 (Int.toNat v12.2) default).Live) ((List.getD s10.2.2.1 (Int.toNat v12.2) default).C) (List.set ((List.getD s10.2.2.1 (Int.toNat v12.2) default).Pages) (Int.toNat v14.2) (DSlot.mk ((List.getD ((List.getD s10.2.2.1 (Int.toNat v12.2) default).Pages) (Int.toNat v14.2) default).Frame) false ((List.getD ((List.getD s10.2.2.1 (Int.toNat v12.2) default).Pages) (Int.toNat v14.2) default).Dirty))) ((List.getD s10.2.2.1 (Int.toNat v12.2) default).In) ((List.getD s10.2.2.1 (Int.toNat v12.2) default).Out))) (Int.toNat v13.2) default).In) ((List.getD (List.set s10.2.2.1 (Int.toNat v12.2) (DGuest.mk ((List.getD s10.2.2.1 (Int.toNat v12.2) default).Live) ((List.getD s10.2.2.1 (Int.toNat v12.2) default).C) (List.set ((List.getD s10.2.2.1 (Int.toNat v12.2) default).Pages) (Int.toNat v14.2) (DSlot.mk ((List.getD ((List.getD s10.2.2.1 (Int.toNat v12.2) default).Pages) (Int.toNat v14.2) default).Frame) false ((List.getD ((List.getD s10.2.2.1 (Int.toNat v12.2) default).Pages) (Int.toNat v14.2) default).Dirty))) ((List.getD s10.2.2.1 (Int.toNat v12.2) default).In) ((List.getD s10.2.2.1 (Int.toNat v12.2) default).Out))) (Int.toNat v13.2) default).Out))))))))))))
      (some (.go (v14.1.b,v14.1.p,s10.2.2.1))))))
     (some (.go (v14.1.b,v14.1.p,s10.2.2.1)))))
    (some (.go (v14.1.b,v14.1.p,s10.2.2.1))))) fun j11 =>
   JO.run j11 (F_spec_l20Host_j11 s10))
  (some (.ret (.go (s10.1,s10.2.1,s10.2.2.1))))
noncomputable def F_spec_l20Host_j3 (x_n:Int) (s3:(List Int) × Int × (List Int) × (List DGuest)):Option (Dl20Rd × DHost) :=
 Option.bind (Option.bind (F___spec_l20Rd__pick (Dl20Rd.mk s3.1 s3.2.1) (4:Int)) fun v9 =>
  Option.bind (iter (F_spec_l20Host_l10) (v9.1.b,v9.1.p,s3.2.2.2,v9.2)) LO.val) fun j4 =>
  JO.run j4 (F_spec_l20Host_j4 x_n s3)
noncomputable def F_spec_l20Host_j19 (s18:(List Int) × Int × (List Int) × (List DGuest) × (List Int) × Int × Int × Int × Int × Bool × Int × Int × Int × Bool × Bool × Bool × Bool × (List Int) × (List Int) × (List Int) × Int) (s19:(List Int) × Int × (List Int) × (List DGuest) × (List Int) × Int × Int × Int × Int × Bool × Int × Int × Int × Bool × Bool × Bool × Bool × (List Int) × (List Int) × (List Int)):Option (LO ((List Int) × Int × (List Int) × (List DGuest) × (List Int) × Int × Int × Int × Int × Bool × Int × Int × Int × Bool × Bool × Bool × Bool × (List Int) × (List Int) × (List Int) × Int) (JO ((List Int) × Int × (List Int) × (List DGuest)) (Dl20Rd × DHost))) :=
 some (.next (s19.1,s19.2.1,s19.2.2.1,s19.2.2.2.1,s19.2.2.2.2.1,s19.2.2.2.2.2.1,s19.2.2.2.2.2.2.1,s19.2.2.2.2.2.2.2.1,s19.2.2.2.2.2.2.2.2.1,s19.2.2.2.2.2.2.2.2.2.1,s19.2.2.2.2.2.2.2.2.2.2.1,s19.2.2.2.2.2.2.2.2.2.2.2.1,s19.2.2.2.2.2.2.2.2.2.2.2.2.1,s19.2.2.2.2.2.2.2.2.2.2.2.2.2.1,s19.2.2.2.2.2.2.2.2.2.2.2.2.2.2.1,s19.2.2.2.2.2.2.2.2.2.2.2.2.2.2.2.1,s19.2.2.2.2.2.2.2.2.2.2.2.2.2.2.2.2.1,s19.2.2.2.2.2.2.2.2.2.2.2.2.2.2.2.2.2.1,s19.2.2.2.2.2.2.2.2.2.2.2.2.2.2.2.2.2.2.1,s19.2.2.2.2.2.2.2.2.2.2.2.2.2.2.2.2.2.2.2,(w64 (s18.2.2.2.2.2.2.2.2.2.2.2.2.2.2.2.2.2.2.2.2 - (1:Int)))))
noncomputable def F_spec_l20Host_j21 (s18:(List Int) × Int × (List Int) × (List DGuest) × (List Int) × Int × Int × Int × Int × Bool × Int × Int × Int × Bool × Bool × Bool × Bool × (List Int) × (List Int) × (List Int) × Int) (v20:Dl20Rd × DBare) (s21:(List Int) × Int × (List Int)):Option (JO ((List Int) × Int × (List Int) × (List DGuest) × (List Int) × Int × Int × Int × Int × Bool × Int × Int × Int × Bool × Bool × Bool × Bool × (List Int) × (List Int) × (List Int)) (LO ((List Int) × Int × (List Int) × (List DGuest) × (List Int) × Int × Int × Int × Int × Bool × Int × Int × Int × Bool × Bool × Bool × Bool × (List Int) × (List Int) × (List Int) × Int) (JO ((List Int) × Int × (List Int) × (List DGuest)) (Dl20Rd × DHost)))) :=
 Option.bind (F_spec_HostBoot (DHost.mk s18.2.2.1 s18.2.2.2.1) (DBare.mk v20.2.C s21.2.2 v20.2.In v20.2.Out)) fun v22 =>
 cond v22.2.2
  (some (.go (s21.1,s21.2.1,v22.1.Words,v22.1.Guests,v20.2.C.Regs,v20.2.C.Pc,v20.2.C.Root,v20.2.C.Vector,v20.2.C.Saved,v20.2.C.SavedUser,v20.2.C.Cause,v20.2.C.Bad,v20.2.C.Timer,v20.2.C.Waits,v20.2.C.User,v20.2.C.On,v20.2.C.Stopped,s21.2.2,v20.2.In,v20.2.Out)))
  (some (.go (s21.1,s21.2.1,s18.2.2.1,s18.2.2.2.1,v20.2.C.Regs,v20.2.C.Pc,v20.2.C.Root,v20.2.C.Vector,v20.2.C.Saved,v20.2.C.SavedUser,v20.2.C.Cause,v20.2.C.Bad,v20.2.C.Timer,v20.2.C.Waits,v20.2.C.User,v20.2.C.On,v20.2.C.Stopped,s21.2.2,v20.2.In,v20.2.Out)))
noncomputable def F_spec_l20Host_j24 (s23:(List Int) × Int × (List Int) × Int) (s24:(List Int) × Int × (List Int)):Option (LO ((List Int) × Int × (List Int) × Int) (JO ((List Int) × Int × (List Int)) (JO ((List Int) × Int × (List Int) × (List DGuest) × (List Int) × Int × Int × Int × Int × Bool × Int × Int × Int × Bool × Bool × Bool × Bool × (List Int) × (List Int) × (List Int)) (LO ((List Int) × Int × (List Int) × (List DGuest) × (List Int) × Int × Int × Int × Int × Bool × Int × Int × Int × Bool × Bool × Bool × Bool × (List Int) × (List Int) × (List Int) × Int) (JO ((List Int) × Int × (List Int) × (List DGuest)) (Dl20Rd × DHost)))))) :=
 some (.next (s24.1,s24.2.1,s24.2.2,(w64 (s23.2.2.2+(1:Int)))))
noncomputable def F_spec_l20Host_j25 (s18:(List Int) × Int × (List Int) × (List DGuest) × (List Int) × Int × Int × Int × Int × Bool × Int × Int × Int × Bool × Bool × Bool × Bool × (List Int) × (List Int) × (List Int) × Int) (s23:(List Int) × Int × (List Int) × Int) (s25:(List Int) × Int × (List Int)):Option (JO ((List Int) × Int × (List Int)) (LO ((List Int) × Int × (List Int) × Int) (JO ((List Int) × Int × (List Int)) (JO ((List Int) × Int × (List Int) × (List DGuest) × (List Int) × Int × Int × Int × Int × Bool × Int × Int × Int × Bool × Bool × Bool × Bool × (List Int) × (List Int) × (List Int)) (LO ((List Int) × Int × (List Int) × (List DGuest) × (List Int) × Int × Int × Int × Int × Bool × Int × Int × Int × Bool × Bool × Bool × Bool × (List Int) × (List Int) × (List Int) × Int) (JO ((List Int) × Int × (List Int) × (List DGuest)) (Dl20Rd × DHost))))))) :=
 cond (decide ((0:Int)<(((List.length s18.2.2.2.2.2.2.2.2.2.2.2.2.2.2.2.2.2.1):Nat):Int)))
  (Option.bind (F___spec_l20Rd__pick (Dl20Rd.mk s25.1 s25.2.1) (3:Int)) fun v26 =>
  cond (decide (v26.2=(0:Int)))
   (grd ((0:Int)≤(w64 (s23.2.2.2*(8:Int)))∧(w64 (s23.2.2.2*(8:Int)))≤(w64 ((w64 (s23.2.2.2+(1:Int)))*(8:Int)))∧(w64 ((w64 (s23.2.2.2+(1:Int)))*(8:Int)))≤(((List.length s25.2.2):Nat):Int)) (grd ((0:Int)≤(w64 (s23.2.2.2*(8:Int)))∧(w64 (s23.2.2.2*(8:Int)))≤(((List.length s18.2.2.2.2.2.2.2.2.2.2.2.2.2.2.2.2.2.1):Nat):Int)∧(((List.length s18.2.2.2.2.2.2.2.2.2.2.2.2.2.2.2.2.2.1):Nat):Int)≤(((List.length s18.2.2.2.2.2.2.2.2.2.2.2.2.2.2.2.2.2.1):Nat):Int)) (some (.go (v26.1.b,v26.1.p,(over s25.2.2 (Int.toNat (w64 (s23.2.2.2*(8:Int)))) (Int.toNat (w64 ((w64 (s23.2.2.2+(1:Int)))*(8:Int))) - Int.toNat (w64 (s23.2.2.2*(8:Int)))) (List.take (Int.toNat (((List.length s18.2.2.2.2.2.2.2.2.2.2.2.2.2.2.2.2.2.1):Nat):Int) - Int.toNat (w64 (s23.2.2.2*(8:Int)))) (List.drop (Int.toNat (w64 (s23.2.2.2*(8:Int)))) s18.2.2.2.2.2.2.2.2.2.2.2.2.2.2.2.2.2.1))))))))
   (some (.go (v26.1.b,v26.1.p,s25.2.2))))
  (some (.go (s25.1,s25.2.1,s25.2.2)))
noncomputable def F_spec_l20Host_l23 (s18:(List Int) × Int × (List Int) × (List DGuest) × (List Int) × Int × Int × Int × Int × Bool × Int × Int × Int × Bool × Bool × Bool × Bool × (List Int) × (List Int) × (List Int) × Int) (s23:(List Int) × Int × (List Int) × Int):Option (LO ((List Int) × Int × (List Int) × Int) (JO ((List Int) × Int × (List Int)) (JO ((List Int) × Int × (List Int) × (List DGuest) × (List Int) × Int × Int × Int × Int × Bool × Int × Int × Int × Bool × Bool × Bool × Bool × (List Int) × (List Int) × (List Int)) (LO ((List Int) × Int × (List Int) × (List DGuest) × (List Int) × Int × Int × Int × Int × Bool × Int × Int × Int × Bool × Bool × Bool × Bool × (List Int) × (List Int) × (List Int) × Int) (JO ((List Int) × Int × (List Int) × (List DGuest)) (Dl20Rd × DHost)))))) :=
 cond (decide (s23.2.2.2<(8:Int)))
  (Option.bind (Option.bind (cond (decide ((3:Int)<s23.2.2.2))
   (Option.bind (F___spec_l20Rd__pick (Dl20Rd.mk s23.1 s23.2.1) (2:Int)) fun v27 =>
   cond (decide (v27.2=(0:Int)))
    (grd ((0:Int)≤(w64 (s23.2.2.2*(8:Int)))∧(w64 (s23.2.2.2*(8:Int)))≤(((List.length s23.2.2.1):Nat):Int)∧(((List.length s23.2.2.1):Nat):Int)≤(((List.length s23.2.2.1):Nat):Int)) (some (.go (v27.1.b,v27.1.p,(over s23.2.2.1 (Int.toNat (w64 (s23.2.2.2*(8:Int)))) (Int.toNat (((List.length s23.2.2.1):Nat):Int) - Int.toNat (w64 (s23.2.2.2*(8:Int)))) (List.replicate (Int.toNat (8:Int)) (0:Int)))))))
    (some (.go (v27.1.b,v27.1.p,s23.2.2.1))))
   (some (.go (s23.1,s23.2.1,s23.2.2.1)))) fun j25 =>
   JO.run j25 (F_spec_l20Host_j25 s18 s23)) fun j24 =>
   JO.run j24 (F_spec_l20Host_j24 s23))
  (some (.ret (.go (s23.1,s23.2.1,s23.2.2.1))))
noncomputable def F_spec_l20Host_l18  (s18:(List Int) × Int × (List Int) × (List DGuest) × (List Int) × Int × Int × Int × Int × Bool × Int × Int × Int × Bool × Bool × Bool × Bool × (List Int) × (List Int) × (List Int) × Int):Option (LO ((List Int) × Int × (List Int) × (List DGuest) × (List Int) × Int × Int × Int × Int × Bool × Int × Int × Int × Bool × Bool × Bool × Bool × (List Int) × (List Int) × (List Int) × Int) (JO ((List Int) × Int × (List Int) × (List DGuest)) (Dl20Rd × DHost))) :=
 cond (decide ((0:Int)<s18.2.2.2.2.2.2.2.2.2.2.2.2.2.2.2.2.2.2.2.2))
  (Option.bind (Option.bind (F_spec_l20Bare (Dl20Rd.mk s18.1 s18.2.1) (0:Int)) fun v20 =>
   Option.bind (Option.bind (iter (F_spec_l20Host_l23 s18) (v20.1.b,v20.1.p,v20.2.Mem,(0:Int))) LO.val) fun j21 =>
    JO.run j21 (F_spec_l20Host_j21 s18 v20)) fun j19 =>
   JO.run j19 (F_spec_l20Host_j19 s18))
  (some (.ret (.go (s18.1,s18.2.1,s18.2.2.1,s18.2.2.2.1))))
noncomputable def F_spec_l20Host_j2 (x_n:Int) (v1:DHost) (s2:(List Int) × Int × (List Int)):Option (Dl20Rd × DHost) :=
 Option.bind (Option.bind (F___spec_l20Rd__pick (Dl20Rd.mk s2.1 s2.2.1) (3:Int)) fun v17 =>
  Option.bind (iter (F_spec_l20Host_l18) (v17.1.b,v17.1.p,s2.2.2,v1.Guests,([]:List Int),(0:Int),(0:Int),(0:Int),(0:Int),false,(0:Int),(0:Int),(0:Int),false,false,false,false,([]:List Int),([]:List Int),([]:List Int),(w64 ((1:Int)+v17.2)))) LO.val) fun j3 =>
  JO.run j3 (F_spec_l20Host_j3 x_n)
noncomputable def F_spec_l20Host_j29 (s28:(List Int) × Int × (List Int) × Int) (s29:(List Int) × Int × (List Int)):Option (LO ((List Int) × Int × (List Int) × Int) (JO ((List Int) × Int × (List Int)) (Dl20Rd × DHost))) :=
 some (.next (s29.1,s29.2.1,s29.2.2,(w64 (s28.2.2.2+(1:Int)))))
noncomputable def F_spec_l20Host_l28  (s28:(List Int) × Int × (List Int) × Int):Option (LO ((List Int) × Int × (List Int) × Int) (JO ((List Int) × Int × (List Int)) (Dl20Rd × DHost))) :=
 cond (decide (s28.2.2.2<(((List.length s28.2.2.1):Nat):Int)))
  (Option.bind (Option.bind (F___spec_l20Rd__pick (Dl20Rd.mk s28.1 s28.2.1) (4:Int)) fun v30 =>
   cond (decide (v30.2=(0:Int)))
    (Option.bind (F___spec_l20Rd__word v30.1) fun v31 =>
    grd ((0:Int)≤s28.2.2.2∧s28.2.2.2<(((List.length s28.2.2.1):Nat):Int)) (some (.go (v31.1.b,v31.1.p,(List.set s28.2.2.1 (Int.toNat s28.2.2.2) v31.2)))))
    (some (.go (v30.1.b,v30.1.p,s28.2.2.1)))) fun j29 =>
   JO.run j29 (F_spec_l20Host_j29 s28))
  (some (.ret (.go (s28.1,s28.2.1,s28.2.2.1))))
noncomputable def F_spec_l20Host (x_r:Dl20Rd) (x_n:Int):Option (Dl20Rd × DHost) :=
 Option.bind (F_spec_HostNew (0:Int)) fun v1 =>
 Option.bind (Option.bind (iter (F_spec_l20Host_l28) (x_r.b,x_r.p,v1.Words,(0:Int))) LO.val) fun j2 =>
  JO.run j2 (F_spec_l20Host_j2 x_n v1)
theorem spec_l20Host_fn {x_r:Dl20Rd} {x_n:Int} {R_:Dl20Rd × DHost} (hh:F_spec_l20Host x_r x_n=some R_):Inl Try.prog 131 [pp 0,.int .i64 x_n] [(0,some (rB134 x_r))] 1 (.agg [.sref 1 [] 0 (List.length R_.2.Words) 1,.sref 2 [] 0 (List.length R_.2.Guests) 17]) [(2,some (rO55 R_.2.Guests)),(1,some (rI_3 R_.2.Words)),(0,some ⟨134,[bo (eI .u8) R_.1.b,.int .i64 R_.1.p]⟩)] 3:=by
 let z20:EH:=(0,none); let z21:=(0,pp 0); let z22:EH:=(0,some (rB134 x_r)); let z23:=(1,ii x_n); let z24:EH:=(1,some ⟨41,[.nil,.nil]⟩); let z25:EV:=(108,.ptr 2 [] 1); let z26:EV:=(144,.ptr 2 [] 1); let z27:=(150,pp 0); let z28:EV:=(152,.ptr 2 [] 1); let z29:EV:=(174,.agg [ii 3,bb true,bb false]); let z30:EV:=(175,.agg [ii 3,bb false,bb false]); let z31:EV:=(197,.agg (bb false :: .nil::zru25 [.nil,.sref 5 [] 0 1 1,.nil])); let z32:=(4,pp 1); let z33:=(5,pp 2); let z34:EV:=(56,.ptr 10 [] 13); let z35:EV:=(61,.sref 15 [] 0 (List.length (List.replicate (Int.toNat (8:Int)) (0:Int))) 1); let z36:=(7,pp 5); let z37:EV:=(72,.ptr 10 [] 13); let z38:=(9,pp 10); let z1:=DCore.mk ([]:List Int) (0:Int) (0:Int) (0:Int) (0:Int) false (0:Int) (0:Int) (0:Int) false false false false; let z10:=DGuest.mk false z1 ([]:List DSlot) ([(1:Int)]:List Int) ([]:List Int); let z2:=DSlot.mk (3:Int) false false; let z3:=DSlot.mk (3:Int) true false
 unfold F_spec_l20Host at hh
 refine Inl.start low_spec_l20Host [0,1] [0] (E:=sp 200 [z21,z23]) (H1:=[z22]) kr kr (sy [0,1,4] [0,1] (sp 200 [z21,z23,z32]) [z22,z24] 2 (Aw.sreg [0,1,4,5] [0,1,2,3,4] ?_))
 obtain ⟨v1,hv1,hh⟩:=bind_some hh
 let q1:Root:=(rO55 v1.Guests); let z39:=(4,some q1); let q2:Root:=(rI_3 v1.Words)
 refine ys (.call 160 [(.c (ii 0))]) (some 18) (op_call (r:=.agg [.own 3 1 (List.length v1.Words) (fl (eI .i64) v1.Words),.own 55 17 (List.length v1.Guests) (fl O_55 v1.Guests)]) (v:=.agg [sw 2 v1.Words,.sref 3 [] 0 (List.length v1.Guests) 17]) (Hr:=[(3,some q1),(2,some q2)]) (n':=4) (spec_HostNew_fn hv1) (clz_v (vs:=[ii 0]) kr (cz1 clz_n)) nrr nrr kr ?_)
 let q3:Root:=⟨41,[sw 2 v1.Words,.sref 3 [] 0 (List.length v1.Guests) 17]⟩
 refine yt (sp 200 [z21,z23,z32,(5,pp 4)]) [z22,z24,(2,some q2),(3,some q1),(4,some q3)] 5 ?_
 obtain ⟨j2,hh,hk2⟩:=bind_some hh
 refine Aw.join (S:=(List Int) × Int × (List Int)) (fun s2=>sp 200 [(0,pp 0),(1,ii x_n),(4,pp 1),(5,pp 2)]) (fun s2=>[(0,some ⟨134,[bo (eI .u8) s2.1,ii s2.2.1]⟩),(1,some ⟨41,[.nil,.nil]⟩),(2,some ⟨41,[sw 3 s2.2.2,.sref 4 [] 0 (List.length v1.Guests) 17]⟩),(3,some (rI_3 s2.2.2)),(4,some (rO55 v1.Guests))]) 5 (fun s2=>F_spec_l20Host_j2 x_n v1 s2=some R_) ?_ ?_
 · intro s2 hh
   unfold F_spec_l20Host_j2 at hh
   refine Aw.sreg [0,1,4,5,7] [0,1,2,3,4,5] ?_
   let q4:Root:=⟨134,[bo (eI .u8) s2.1,ii s2.2.1]⟩; let q5:Root:=⟨41,[sw 3 s2.2.2,.sref 4 [] 0 (List.length v1.Guests) 17]⟩; let q6:Root:=(rI_3 s2.2.2); let q7:Root:=⟨27,(.nil::zru25 [.nil,.nil,.nil])⟩
   refine yt (sp 200 [z21,z23,z32,z33,z36]) [(0,some q4),z24,(2,some q5),(3,some q6),z39,(5,some q7)] 6 ?_
   obtain ⟨j3,hh,hk3⟩:=bind_some hh
   refine Aw.join (S:=(List Int) × Int × (List Int) × (List DGuest)) (fun s3=>sp 200 [(0,pp 0),(1,ii x_n),(4,pp 1),(5,pp 2)]) (fun s3=>[(0,some ⟨134,[bo (eI .u8) s3.1,ii s3.2.1]⟩),(1,some ⟨41,[.nil,.nil]⟩),(2,some ⟨41,[sw 3 s3.2.2.1,.sref 4 [] 0 (List.length s3.2.2.2) 17]⟩),(3,some (rI_3 s3.2.2.1)),(4,some (rO55 s3.2.2.2))]) 5 (fun s3=>F_spec_l20Host_j3 x_n s3=some R_) ?_ ?_
   · intro s3 hh
     let z40:=(182,sw 3 s3.2.2.1); let z41:EH:=(4,some (rO55 s3.2.2.2))
     unfold F_spec_l20Host_j3 at hh
     obtain ⟨j4,hh,hk4⟩:=bind_some hh
     refine Aw.join (S:=(List Int) × Int × (List DGuest)) (fun s4=>sp 200 [(0,pp 0),(1,ii x_n),(4,pp 1),(5,pp 2)]) (fun s4=>[(0,some ⟨134,[bo (eI .u8) s4.1,ii s4.2.1]⟩),(1,some ⟨41,[.nil,.nil]⟩),(2,some ⟨41,[sw 3 s3.2.2.1,.sref 4 [] 0 (List.length s4.2.2) 17]⟩),(3,some (rI_3 s3.2.2.1)),(4,some (rO55 s4.2.2))]) 5 (fun s4=>F_spec_l20Host_j4 x_n s3 s4=some R_) ?_ ?_
     · intro s4 hh
       let z42:EV:=(173,.sref 4 [] 0 (List.length s4.2.2) 17); let z43:EV:=(189,.sref 4 [] 0 (List.length s4.2.2) 17); let z44:EV:=(195,.sref 4 [] 0 (List.length s4.2.2) 17); let z45:EH:=(4,some (rO55 s4.2.2)); let z4:=List.getD s4.2.2 0 default; let z11:=DGuest.mk (z4.Live) (z4.C) ([z3,z2]:List DSlot) (z4.In) (z4.Out); let z5:=List.take (Int.toNat (2:Int) - Int.toNat (0:Int)) s4.2.2
       unfold F_spec_l20Host_j4 at hh
       obtain ⟨j5,hh,hk5⟩:=bind_some hh
       refine Aw.join (S:=(List Int) × (List Int) × Int × (List DGuest)) (fun s5=>sp 200 [(4,pp 1),(5,pp 2)]) (fun s5=>[(0,some ⟨134,[bo (eI .u8) s5.2.1,ii s5.2.2.1]⟩),(1,some ⟨41,[.nil,.nil]⟩),(2,some ⟨41,[sw 3 s5.1,.sref 4 [] 0 (List.length s5.2.2.2) 17]⟩),(3,some (rI_3 s5.1)),(4,some (rO55 s5.2.2.2))]) 5 (fun s5=>F_spec_l20Host_j5 s5=some R_) ?_ ?_
       · intro s5 hh
         unfold F_spec_l20Host_j5 at hh
         refine Aw.sreg [4] [0,1,3,4] ?_
         let q8:Root:=⟨134,[bo (eI .u8) s5.2.1,ii s5.2.2.1]⟩
         refine yt (sp 200 [z32]) [(0,some q8),(1,some ⟨41,[sw 3 s5.1,.sref 4 [] 0 (List.length s5.2.2.2) 17]⟩),(3,some (rI_3 s5.1)),(4,some (rO55 s5.2.2.2))] 5 (Aw.ret ?_)
         rw [some_some hh]
         exact gives (r':=.agg [sw 3 s5.1,.sref 4 [] 0 (List.length s5.2.2.2) 17]) kr (el [some 0,some 3,some 4] (rens_1 (ren_agg rz)) (hn nr_O_55 (hn nr_eI (hq q8 rz hs_nil))))
       intro Q5 hN5 hR5 hE5
       refine Aw.sreg [0,4,5,169] [0,1,2,3,4] ?_
       let q9:Root:=⟨134,[bo (eI .u8) s4.1,ii s4.2.1]⟩; let q10:Root:=⟨41,[sw 3 s3.2.2.1,.sref 4 [] 0 (List.length s4.2.2) 17]⟩; let z46:=(2,some q10); let q11:Root:=(rI_3 s3.2.2.1); let z47:=(3,some q11)
       refine yj 2  (sp 200 [z21,z23,z32,z33,(167,pp 0),(168,ii x_n)]) [(0,some q9),z24,z46,z47,z45] 5 ?_
       obtain ⟨v6,hv6,hh⟩:=bind_some hh
       let z48:EH:=(0,some (rB134 v6.1))
       refine ys (.call 117 [(.t 167),(.t 168)]) (some 169) (cf (bb v6.2) [z48] 5 [0] (__spec_l20Rd__odd_fn hv6) [pp 0,ii x_n] rz (hq q9 rz hs_nil) ren_b (hq (rB134 v6.1) (rens_same (nr_B_134 _)) hs_nil) ?_)
       refine yt (sp 200 [z21,z32,z33,(169,bb v6.2)]) [z48,z24,z46,z47,z45] 5 ?_
       rcases cond_some hh with ⟨hb,hh⟩ | ⟨hb,hh⟩
       · refine cT hb (Aw.sreg [0,4,5,171] [0,1,2,3,4] (yu 1 [(170,pp 0)] [z48,z24,z46,z47,z45] 5 ?_))
         obtain ⟨v7,hv7,hh⟩:=bind_some hh
         let z49:EH:=(0,some (rB134 v7.1)); let z50:=(171,ii v7.2); let z51:=(179,bb (decide (v7.2=(0:Int)))); let z52:=(186,bb (decide (v7.2=(1:Int)))); let z53:=(192,bb (decide (v7.2=(2:Int))))
         refine ys (.call 49 [(.t 170),(.c (ii 4))]) (some 171) (cf (ii v7.2) [z49] 5 [0] (__spec_l20Rd__pick_fn hv7) [pp 0,ii 4] rz (hq (rB134 v6.1) (rens_same (nr_B_134 _)) hs_nil) ren_i (hq (rB134 v7.1) (rens_same (nr_B_134 _)) hs_nil) ?_)
         refine yt (sp 200 [z21,z32,z33,z50]) [z49,z24,z46,z47,z45] 5 (Aw.block (sy [0,4,5,171,179] [0,1,2,3,4] (sp 200 [z21,z32,z33,z50,z51]) [z49,z24,z46,z47,z45] 5 ?_))
         rcases cond_some hh with ⟨hb,hh⟩ | ⟨hb,hh⟩
         · refine cT hb (Aw.oregd [0] kr (dj 3 (sp 200 [z21,z32,z33,z50,z51,(181,pp 2),z40,(183,pp 0)]) [z49,z24,z46,z47,z45] 5 ?_))
           obtain ⟨v8,hv8,hh⟩:=bind_some hh
           let z54:EH:=(0,some (rB134 v8.1))
           refine ds (.call 49 [(.t 183),(.c (ii 9))]) (some 184) (ydo_n rfl (cf (ii v8.2) [z54] 5 [0] (__spec_l20Rd__pick_fn hv8) [pp 0,ii 9] rz (hq (rB134 v7.1) (rens_same (nr_B_134 _)) hs_nil) ren_i (hq (rB134 v8.1) (rens_same (nr_B_134 _)) hs_nil) ⟨⟨agr_callf rfl rfl,Hld.un ?_⟩⟩))
           refine dt (sp 200 [z21,z32,z33,z50,z51,(181,pp 2),z40,(183,pp 0),(184,ii v8.2)]) [z54,z20,z49,z24,z46,z47,z45] 5 ?_
           obtain ⟨hg1296,hh⟩:=grd_some hh
           refine yjc 1 [(0:Int)≤v8.2∧v8.2<(((List.length s3.2.2.1):Nat):Int)] (sp 200 [z21,z32,z33,z50,z51,(181,pp 2),z40,(183,pp 0),(184,ii v8.2),(185,.ptr 3 [] (0+(Int.toNat v8.2)*1))]) [z54,z20,z49,z24,z46,z47,z45] 5 (.cons hg1296 .nil) ?_
           let q12:Root:=(rI_3 (List.set s3.2.2.1 (Int.toNat v8.2) (4096:Int)))
           refine ys (.store 1 (.t 185) (.c (ii 4096))) none (op_store (c:=(eI .i64)) (xs:=s3.2.2.1) (e:=3) (r:=3) (π:=[]) (o:=0+(Int.toNat v8.2)*1) (i:=(Int.toNat v8.2)) (off:=0) (vs:=[ii 4096]) (y:=(4096:Int)) (H':=[(3,some q12),z54,z20,z49,z24,z46,z47,z45]) len_eI kr kr kr kr ltn ltn dd kr kr ?_)
           refine ye (sp 200 [z21,z32,z33,z50,z51,(181,pp 2),z40,(183,pp 0),(184,ii v8.2),(185,.ptr 3 [] (0+(Int.toNat v8.2)*1))]) [(3,some q12),z54,z20,z49,z24,z46,z47,z45] 5 (blk_m ?_)
           obtain rfl:=some_some hh
           exact hN5 ((List.set s3.2.2.1 (Int.toNat v8.2) (4096:Int)),v8.1.b,v8.1.p,s4.2.2) _ _ _ hk5 (el [some 0,some 1,some 2,some 3,some 4] (rens_sp kr (rp 1 (rp 2 rl_n))) (hq (rB134 v8.1) rz (hq ⟨41,[.nil,.nil]⟩ rz (hq q10 rz (hn nr_eI (hn nr_O_55 hs_nil))))))
         refine cF hb (sy [4,5,171,186] [0,1,2,3,4] (sp 200 [z32,z33,z50,z52]) [z49,z24,z46,z47,z45] 5 ?_)
         rcases cond_some hh with ⟨hb,hh⟩ | ⟨hb,hh⟩
         · refine cT hb (Aw.oreg (yu 2 [(188,.ptr 2 [] 1),z43] [z49,z24,z46,z47,z45] 5 ?_))
           obtain ⟨hg1298,hh⟩:=grd_some hh
           refine ys (.slc 17 (.t 189) none (some (.c (ii 2)))) (some 190) (op_slo (r:=4) (π:=[]) (o:=0) (k:=(List.length s4.2.2)) (sz:=17) (l:=(0:Int)) (h:=(2:Int)) kr kr kr hg1298 ?_)
           let q13:Root:=⟨41,[sw 3 s3.2.2.1,.sref 4 [] 0 (Int.toNat (2:Int) - Int.toNat (0:Int)) 17]⟩
           refine ye (sp 200 [z32,z33,z50,z52,(188,.ptr 2 [] 1),z43,(190,.sref 4 [] 0 (Int.toNat (2:Int) - Int.toNat (0:Int)) 17),(191,.ptr 2 [] 1)]) [(2,some q13),z49,z24,z46,z47,z45] 5 (blk_m ?_)
           obtain rfl:=some_some hh
           let q14:Root:=(rO55 z5)
           exact hN5 (s3.2.2.1,v7.1.b,v7.1.p,z5) _ _ _ hk5 (Ent.trans (el [some 0,some 1,some 2,some 3,some 4] (rens_sp kr (rp 1 (rp 2 rl_n))) (hq (rB134 v7.1) rz (hq ⟨41,[.nil,.nil]⟩ rz (hq q13 rz (hn nr_eI (hn nr_O_55 hs_nil)))))) (Ent.cut (H2:=[(2,some q13),z49,z24,z47,(4,some q14)]) (HC.root (hc_c (t:=q13) kr (hc_c (t:=(rB134 v7.1)) kr (hc_c (t:=⟨41,[.nil,.nil]⟩) kr (hc_c (t:=q11) kr (hc_t (c:=O_55) (xs:=s4.2.2) len_O_55 kr hc_n))))))))
         refine cF hb (sy [4,5,192] [0,1,2,3,4] (sp 200 [z32,z33,z53]) [z49,z24,z46,z47,z45] 5 ?_)
         rcases cond_sf hh with ⟨hb,hh⟩ | ⟨hb,hh⟩
         · refine cF hb (Aw.oreg ?_)
           obtain ⟨hg1302,hh⟩:=grd_some hh
           let q17:Root:=⟨52,[ii 3,bb true,bb false,ii 3,bb false,bb false]⟩
           refine yjc 7 [(0:Int)≤(0:Int)∧(0:Int)<(((List.length s4.2.2):Nat):Int)] (sp 200 [z32,z33,(172,.ptr 2 [] 1),z42,z29,z30,(176,.sref 5 [] 0 2 3),(177,pp 4),(178,.ptr 4 [] 14),z53]) [(5,some q17),z49,z24,z46,z47,z45] 6 (.cons hg1302 .nil) (ys (.store 1 (.t 178) (.t 176)) none (op_storeR (c:=O_55) (xs:=s4.2.2) (e:=55) (r:=4) (o:=14) (i:=0) (off:=14) (vs:=[.sref 5 [] 0 2 3]) len_O_55 kr kr kr kr ltn ltn dd ?_))
           refine ye (sp 200 [z32,z33,(172,.ptr 2 [] 1),z42,z29,z30,(176,.sref 5 [] 0 2 3),(177,pp 4),(178,.ptr 4 [] 14),z53]) [(4,some ⟨55,(setCells (fl O_55 s4.2.2) 14 [.sref 5 [] 0 2 3])⟩),(5,some q17),z49,z24,z46,z47,z45] 6 (blk_m ?_)
           obtain rfl:=some_some hh
           let q18:Root:=⟨41,[sw 3 s3.2.2.1,.sref 6 [] 0 (List.length s4.2.2) 17]⟩
           exact hN5 (s3.2.2.1,v7.1.b,v7.1.p,(List.set s4.2.2 0 z11)) _ _ _ hk5 (Ent.trans (el [some 0,some 1,some 2,some 3,some 6] (rens_sp kr (rp 1 (rp 2 rl_n))) (hq (rB134 v7.1) rz (hq ⟨41,[.nil,.nil]⟩ rz (hq q18 rz (hn nr_eI (hn nr_O_55 hs_nil)))))) (Ent.foldP (c:=O_55) (xs:=s4.2.2) (i:=0) (off:=14) (o:=14) (y:=z11) (R:=4) (e:=55) (us2:=sp 200 [z32,z33]) (H2:=[z49,z24,(2,some q18),z47]) (L:=[some (some 5)]) (ws:=[.own 52 3 2 [ii 3,bb true,bb false,ii 3,bb false,bb false]]) len_O_55 kr ltn ltn (Nat.le_of_ble_eq_true rfl) kr (fcs_r kr eqn fcs_n) (by rfl) (by rfl) (rds_sp kr (rdl_c (u:=pp 1) kr (.same _) (rdl_c (u:=pp 2) kr (.same _) rdl_n))) (hd_c (t:=(rB134 v7.1)) rfl kr rfl rds_same (hd_c (t:=⟨41,[.nil,.nil]⟩) rfl kr rfl rds_same (hd_c (t:=q10) rfl kr rfl (rds_c (.same _) (rds_c (.sref _ _ _ _ eqn) rds_n)) (hd_c (t:=q11) rfl kr rfl rds_same hd_n))))))
         refine cT hb (Aw.oreg ?_)
         obtain ⟨hg1300,hh⟩:=grd_some hh
         let q15:Root:=⟨3,[ii 1]⟩
         refine yjc 5 [(0:Int)≤(2:Int)∧(2:Int)<(((List.length s4.2.2):Nat):Int)] (sp 200 [z32,z33,z53,(194,.ptr 2 [] 1),z44,(196,.sref 5 [] 0 1 1),z31,(198,.ptr 4 [] 34)]) [(5,some q15),z49,z24,z46,z47,z45] 6 (.cons hg1300 .nil) (ys (.store 17 (.t 198) (.t 197)) none (op_storeR (c:=O_55) (xs:=s4.2.2) (e:=55) (r:=4) (o:=34) (i:=2) (off:=0) (vs:=(bb false :: .nil::zru25 [.nil,.sref 5 [] 0 1 1,.nil])) len_O_55 kr kr kr kr ltn ltn dd ?_))
         refine ye (sp 200 [z32,z33,z53,(194,.ptr 2 [] 1),z44,(196,.sref 5 [] 0 1 1),z31,(198,.ptr 4 [] 34)]) [(4,some ⟨55,(setCells (fl O_55 s4.2.2) 34 (bb false :: .nil::zru25 [.nil,.sref 5 [] 0 1 1,.nil]))⟩),(5,some q15),z49,z24,z46,z47,z45] 6 (blk_m ?_)
         obtain rfl:=some_some hh
         let q16:Root:=⟨41,[sw 3 s3.2.2.1,.sref 6 [] 0 (List.length s4.2.2) 17]⟩
         exact hN5 (s3.2.2.1,v7.1.b,v7.1.p,(List.set s4.2.2 2 z10)) _ _ _ hk5 (Ent.trans (el [some 0,some 1,some 2,some 3,some 6] (rens_sp kr (rp 1 (rp 2 rl_n))) (hq (rB134 v7.1) rz (hq ⟨41,[.nil,.nil]⟩ rz (hq q16 rz (hn nr_eI (hn nr_O_55 hs_nil)))))) (Ent.foldP (c:=O_55) (xs:=s4.2.2) (i:=2) (off:=0) (o:=34) (y:=z10) (R:=4) (e:=55) (us2:=sp 200 [z32,z33]) (H2:=[z49,z24,(2,some q16),z47]) (L:=[none,some none,none,none,none,none,none,none,none,none,none,none,none,none,some none,some (some 5),some none]) (ws:=(bb false :: .own 3 1 0 []::zru25 [.own 52 3 0 [],.own 3 1 1 [ii 1],.own 3 1 0 []])) len_O_55 kr ltn ltn (Nat.le_of_ble_eq_true rfl) kr (fcs_s (fcs_0 (fcs_s (fcs_s (fcs_s (fcs_s (fcs_s (fcs_s (fcs_s (fcs_s (fcs_s (fcs_s (fcs_s (fcs_s (fcs_0 (fcs_r kr eqn (fcs_0 fcs_n))))))))))))))))) (by rfl) (by rfl) (rds_sp kr (rdl_c (u:=pp 1) kr (.same _) (rdl_c (u:=pp 2) kr (.same _) rdl_n))) (hd_c (t:=(rB134 v7.1)) rfl kr rfl rds_same (hd_c (t:=⟨41,[.nil,.nil]⟩) rfl kr rfl rds_same (hd_c (t:=q10) rfl kr rfl (rds_c (.same _) (rds_c (.sref _ _ _ _ eqn) rds_n)) (hd_c (t:=q11) rfl kr rfl rds_same hd_n))))))
       refine cF hb (Aw.skip ?_)
       obtain rfl:=some_some hh
       exact hN5 (s3.2.2.1,v6.1.b,v6.1.p,s4.2.2) _ _ _ hk5 (el [some 0,some 1,some 2,some 3,some 4] (rens_sp kr (rp 1 (rp 2 rl_n))) (hq (rB134 v6.1) rz (hq ⟨41,[.nil,.nil]⟩ rz (hq q10 rz (hn nr_eI (hn nr_O_55 hs_nil))))))
     intro Q4 hN4 hR4 hE4
     refine Aw.sreg [0,1,4,5,14] [0,1,2,3,4] ?_
     let q19:Root:=⟨134,[bo (eI .u8) s3.1,ii s3.2.1]⟩; let q20:Root:=⟨41,[sw 3 s3.2.2.1,.sref 4 [] 0 (List.length s3.2.2.2) 17]⟩; let q21:Root:=(rI_3 s3.2.2.1); let z55:=(3,some q21)
     refine yj 1  (sp 200 [z21,z23,z32,z33,(96,pp 0)]) [(0,some q19),z24,(2,some q20),z55,z41] 5 ?_
     obtain ⟨v9,hv9,hh⟩:=bind_some hh
     refine ys (.call 49 [(.t 96),(.c (ii 4))]) (some 97) (cf (ii v9.2) [(0,some (rB134 v9.1))] 5 [0] (__spec_l20Rd__pick_fn hv9) [pp 0,ii 4] rz (hq q19 rz hs_nil) ren_i (hq (rB134 v9.1) (rens_same (nr_B_134 _)) hs_nil) ?_)
     refine yt (sp 200 [z21,z23,z32,z33,(14,ii v9.2)]) [(0,some (rB134 v9.1)),z24,(2,some q20),z55,z41] 5 (Aw.block ?_)
     obtain ⟨o10,hi10,hk10⟩:=bind_some hh
     refine Aw.iter (fun (s10:(List Int) × Int × (List DGuest) × Int)=>sp 200 [(0,pp 0),(1,ii x_n),(4,pp 1),(5,pp 2),(14,ii s10.2.2.2)]) (fun (s10:(List Int) × Int × (List DGuest) × Int)=>[(0,some ⟨134,[bo (eI .u8) s10.1,ii s10.2.1]⟩),(1,some ⟨41,[.nil,.nil]⟩),(2,some ⟨41,[sw 3 s3.2.2.1,.sref 4 [] 0 (List.length s10.2.2.1) 17]⟩),(3,some (rI_3 s3.2.2.1)),(4,some (rO55 s10.2.2.1))]) 5 hi10 (el [some 0,some 1,some 2,some 3,some 4] (rens_sp kr (rp 0 (ri (rp 1 (rp 2 (ri rl_n)))))) (hq (rB134 v9.1) rz (hq ⟨41,[.nil,.nil]⟩ rz (hq q20 rz (hn nr_eI (hn nr_O_55 hs_nil)))))) ?_
     intro s10 u10 Q10 hh hN10 hX10 hR10
     let z56:EV:=(109,.sref 4 [] 0 (List.length s10.2.2.1) 17); let z57:EV:=(116,.sref 4 [] 0 (List.length s10.2.2.1) 17); let z58:EV:=(124,.sref 4 [] 0 (List.length s10.2.2.1) 17); let z59:EV:=(136,.sref 4 [] 0 (List.length s10.2.2.1) 17); let z60:=(14,ii s10.2.2.2); let z61:EV:=(145,.sref 4 [] 0 (List.length s10.2.2.1) 17); let z62:EV:=(153,.sref 4 [] 0 (List.length s10.2.2.1) 17); let z63:=(99,bb (decide ((0:Int)<s10.2.2.2)))
     unfold F_spec_l20Host_l10 at hh
     refine Aw.seq (Aw.sreg [0,1,4,5,14,99] [0,1,2,3,4] ?_)
     let q22:Root:=⟨134,[bo (eI .u8) s10.1,ii s10.2.1]⟩; let q23:Root:=⟨41,[sw 3 s3.2.2.1,.sref 4 [] 0 (List.length s10.2.2.1) 17]⟩; let z64:=(2,some q23); let q24:Root:=(rO55 s10.2.2.1); let z65:=(4,some q24)
     refine yt (sp 200 [z21,z23,z32,z33,z60,z63]) [(0,some q22),z24,z64,z55,z65] 5 ?_
     rcases cond_some hh with ⟨hb,hh⟩ | ⟨hb,hh⟩
     · refine cT hb (Aw.xskip (fun _ _ _ hq=>then_m hq) ?_)
       obtain ⟨j11,hh,hk11⟩:=bind_some hh
       refine Aw.join (S:=(List Int) × Int × (List DGuest)) (fun s11=>sp 200 [(0,pp 0),(1,ii x_n),(4,pp 1),(5,pp 2),(14,ii s10.2.2.2)]) (fun s11=>[(0,some ⟨134,[bo (eI .u8) s11.1,ii s11.2.1]⟩),(1,some ⟨41,[.nil,.nil]⟩),(2,some ⟨41,[sw 3 s3.2.2.1,.sref 4 [] 0 (List.length s11.2.2) 17]⟩),(3,some (rI_3 s3.2.2.1)),(4,some (rO55 s11.2.2))]) 5 (fun s11=>F_spec_l20Host_j11 s10 s11=some u10) ?_ ?_
       · intro s11 hh
         unfold F_spec_l20Host_j11 at hh
         refine Aw.oreg ?_
         let q25:Root:=⟨134,[bo (eI .u8) s11.1,ii s11.2.1]⟩; let q26:Root:=⟨41,[sw 3 s3.2.2.1,.sref 4 [] 0 (List.length s11.2.2) 17]⟩
         exact ye (sp 200 [z21,z23,z32,z33,(14,ii (w64 (s10.2.2.2 - (1:Int)))),(100,ii s10.2.2.2),(101,ii (w64 (s10.2.2.2 - (1:Int))))]) [(0,some q25),z24,(2,some q26),z55,(4,some (rO55 s11.2.2))] 5 (hN10 (s11.1,s11.2.1,s11.2.2,(w64 (s10.2.2.2 - (1:Int)))) _ _ _ (some_some hh) (el [some 0,some 1,some 2,some 3,some 4] (rens_sp kr (rp 0 (ri (rp 1 (rp 2 (ri rl_n)))))) (hq q25 rz (hq ⟨41,[.nil,.nil]⟩ rz (hq q26 rz (hn nr_eI (hn nr_O_55 hs_nil)))))))
       intro Q11 hN11 hR11 hE11
       refine Aw.block (Aw.sreg [0,1,4,5,14,15] [0,1,2,3,4] (yj 1  (sp 200 [z21,z23,z32,z33,z60,z63,(102,pp 0)]) [(0,some q22),z24,z64,z55,z65] 5 ?_))
       obtain ⟨v12,hv12,hh⟩:=bind_some hh
       let z66:EH:=(0,some (rB134 v12.1)); let z67:=(110,ii v12.2); let z68:EV:=(111,.ptr 4 [] (0+(Int.toNat v12.2)*17)); let z69:EV:=(112,.ptr 4 [] (0+(Int.toNat v12.2)*17+0)); let z70:EV:=(126,.ptr 4 [] (0+(Int.toNat v12.2)*17)); let z71:EV:=(127,.ptr 4 [] (0+(Int.toNat v12.2)*17+14)); let z72:EV:=(138,.ptr 4 [] (0+(Int.toNat v12.2)*17)); let z73:EV:=(139,.ptr 4 [] (0+(Int.toNat v12.2)*17+14)); let z74:=(15,ii v12.2); let z75:=(154,ii v12.2); let z76:EV:=(155,.ptr 4 [] (0+(Int.toNat v12.2)*17)); let z77:EV:=(156,.ptr 4 [] (0+(Int.toNat v12.2)*17+14)); let z6:=List.getD s10.2.2.1 (Int.toNat v12.2) default; let z78:EV:=(157,.sref 4 [0+(Int.toNat v12.2)*17+14+0] 0 (List.length (z6.Pages)) 3)
       refine ys (.call 49 [(.t 102),(.c (ii 3))]) (some 103) (cf (ii v12.2) [z66] 5 [0] (__spec_l20Rd__pick_fn hv12) [pp 0,ii 3] rz (hq q22 rz hs_nil) ren_i (hq (rB134 v12.1) (rens_same (nr_B_134 _)) hs_nil) ?_)
       refine yt (sp 200 [z21,z23,z32,z33,z60,z74]) [z66,z24,z64,z55,z65] 5 (Aw.sreg [0,1,4,5,14,15,16] [0,1,2,3,4] (yu 1 [(104,pp 0)] [z66,z24,z64,z55,z65] 5 ?_))
       obtain ⟨v13,hv13,hh⟩:=bind_some hh
       let z79:EH:=(0,some (rB134 v13.1)); let z80:EV:=(118,.ptr 4 [] (0+(Int.toNat v13.2)*17)); let z81:EV:=(119,.ptr 4 [] (0+(Int.toNat v13.2)*17+0)); let z82:=(146,ii v13.2); let z83:EV:=(147,.ptr 4 [] (0+(Int.toNat v13.2)*17)); let z84:EV:=(148,.ptr 4 [] (0+(Int.toNat v13.2)*17+14)); let z85:=(16,ii v13.2); let z7:=List.getD s10.2.2.1 (Int.toNat v13.2) default
       refine ys (.call 49 [(.t 104),(.c (ii 3))]) (some 105) (cf (ii v13.2) [z79] 5 [0] (__spec_l20Rd__pick_fn hv13) [pp 0,ii 3] rz (hq (rB134 v12.1) (rens_same (nr_B_134 _)) hs_nil) ren_i (hq (rB134 v13.1) (rens_same (nr_B_134 _)) hs_nil) ?_)
       refine yt (sp 200 [z21,z23,z32,z33,z60,z74,z85]) [z79,z24,z64,z55,z65] 5 (Aw.sreg [0,1,4,5,14,15,16,17] [0,1,2,3,4] (yu 1 [(106,pp 0)] [z79,z24,z64,z55,z65] 5 ?_))
       obtain ⟨v14,hv14,hh⟩:=bind_some hh
       let z86:EH:=(0,some (rB134 v14.1)); let z87:=(158,ii v14.2); let z88:EV:=(159,.ptr 4 [0+(Int.toNat v12.2)*17+14+0] (0+(Int.toNat v14.2)*3)); let z89:EV:=(160,.ptr 4 [0+(Int.toNat v12.2)*17+14+0] (0+(Int.toNat v14.2)*3+0)); let z90:=(17,ii v14.2); let z12:=List.getD (z6.Pages) (Int.toNat v14.2) default; let z91:=(134,bb (decide ((0:Int)≤(z12.Frame)))); let z92:=(161,ii (z12.Frame)); let z14:=DSlot.mk (z12.Frame) false (z12.Dirty); let z17:=DGuest.mk (z6.Live) (z6.C) (List.set (z6.Pages) (Int.toNat v14.2) z14) (z6.In) (z6.Out); let z18:=List.getD (List.set s10.2.2.1 (Int.toNat v12.2) z17) (Int.toNat v13.2) default; let z93:EV:=(149,.sref 4 [0+(Int.toNat v13.2)*17+14+0] 0 (List.length (z18.Pages)) 3)
       refine ys (.call 49 [(.t 106),(.c (ii 8))]) (some 107) (cf (ii v14.2) [z86] 5 [0] (__spec_l20Rd__pick_fn hv14) [pp 0,ii 8] rz (hq (rB134 v13.1) (rens_same (nr_B_134 _)) hs_nil) ren_i (hq (rB134 v14.1) (rens_same (nr_B_134 _)) hs_nil) ?_)
       refine yt (sp 200 [z21,z23,z32,z33,z60,z74,z85,z90]) [z86,z24,z64,z55,z65] 5 (Aw.sreg [0,1,4,5,14,15,16,17,134] [0,1,2,3,4] ?_)
       obtain ⟨hg1482,hh⟩:=grd_some hh
       refine yjc 5 [(0:Int)≤v12.2∧v12.2<(((List.length s10.2.2.1):Nat):Int)] (sp 200 [z21,z23,z32,z33,z60,z74,z85,z90,z25,z56,z67,z68,z69]) [z86,z24,z64,z55,z65] 5 (.cons hg1482 .nil) (ys (.load false 1 (.t 112)) (some 113) (op_load (c:=O_55) (xs:=s10.2.2.1) (e:=55) (r:=4) (π:=[]) (o:=0+(Int.toNat v12.2)*17+0) (i:=(Int.toNat v12.2)) (off:=0) (v:=bb (z6.Live)) len_O_55 kr kr ltn ltn dd kr ?_))
       refine yu 1 [(113,bb (z6.Live)),(114,bb (z6.Live))] [z86,z24,z64,z55,z65] 5 ?_
       rcases cond_sf hh with ⟨hb,hh⟩ | ⟨hb,hh⟩
       · refine yb 113 hb (yb 114 hb (yt (sp 200 [z21,z23,z32,z33,z60,z74,z85,z90,(134,bb false)]) [z86,z24,z64,z55,z65] 5 (cF rfl (Aw.skip (blk_m ?_)))))
         obtain rfl:=some_some hh
         exact hN11 (v14.1.b,v14.1.p,s10.2.2.1) _ _ _ hk11 (el [some 0,some 1,some 2,some 3,some 4] (rens_sp kr (rp 0 (ri (rp 1 (rp 2 (ri rl_n)))))) (hq (rB134 v14.1) rz (hq ⟨41,[.nil,.nil]⟩ rz (hq q23 rz (hn nr_eI (hn nr_O_55 hs_nil))))))
       refine yb 113 hb (yb 114 hb ?_)
       obtain ⟨hg1481,hh⟩:=grd_some hh
       refine yjc 5 [(0:Int)≤v13.2∧v13.2<(((List.length s10.2.2.1):Nat):Int)] (sp 200 [z21,z23,z32,z33,z60,z74,z85,z90,z25,z56,z67,z68,z69,(113,bb true),(114,bb true),(115,.ptr 2 [] 1),z57,(117,ii v13.2),z80,z81]) [z86,z24,z64,z55,z65] 5 (.cons hg1481 .nil) (yg (.load false 1 (.t 119)) (some 120) 114 true (op_load (c:=O_55) (xs:=s10.2.2.1) (e:=55) (r:=4) (π:=[]) (o:=0+(Int.toNat v13.2)*17+0) (i:=(Int.toNat v13.2)) (off:=0) (v:=bb (z7.Live)) len_O_55 kr kr ltn ltn dd kr ?_))
       refine yu 2 [(120,bb (z7.Live)),(121,bb (z7.Live)),(122,bb (z7.Live))] [z86,z24,z64,z55,z65] 5 ?_
       rcases cond_sf hh with ⟨hb,hh⟩ | ⟨hb,hh⟩
       · refine yb 120 hb (yb 121 hb (yb 122 hb (yt (sp 200 [z21,z23,z32,z33,z60,z74,z85,z90,(134,bb false)]) [z86,z24,z64,z55,z65] 5 (cF rfl (Aw.skip (blk_m ?_))))))
         obtain rfl:=some_some hh
         exact hN11 (v14.1.b,v14.1.p,s10.2.2.1) _ _ _ hk11 (el [some 0,some 1,some 2,some 3,some 4] (rens_sp kr (rp 0 (ri (rp 1 (rp 2 (ri rl_n)))))) (hq (rB134 v14.1) rz (hq ⟨41,[.nil,.nil]⟩ rz (hq q23 rz (hn nr_eI (hn nr_O_55 hs_nil))))))
       refine yb 120 hb (yb 121 hb (yb 122 hb ?_))
       obtain ⟨hg1480,hh⟩:=grd_some hh
       refine yjc 5 [(0:Int)≤v12.2∧v12.2<(((List.length s10.2.2.1):Nat):Int)] (sp 200 [z21,z23,z32,z33,z60,z74,z85,z90,z25,z56,z67,z68,z69,(113,bb true),(114,bb true),(115,.ptr 2 [] 1),z57,(117,ii v13.2),z80,z81,(120,bb true),(121,bb true),(122,bb true),(123,.ptr 2 [] 1),z58,(125,ii v12.2),z70,z71]) [z86,z24,z64,z55,z65] 5 (.cons hg1480 .nil) (yg (.load false 1 (.t 127)) (some 128) 122 true (op_load (c:=O_55) (xs:=s10.2.2.1) (e:=55) (r:=4) (π:=[]) (o:=0+(Int.toNat v12.2)*17+14) (i:=(Int.toNat v12.2)) (off:=14) (v:=.sref 4 [0+(Int.toNat v12.2)*17+14+0] 0 (List.length (z6.Pages)) 3) len_O_55 kr kr ltn ltn dd kr ?_))
       obtain ⟨hg1479,hh⟩:=grd_some hh
       refine yjc 3 [(0:Int)≤v14.2∧v14.2<(((List.length (z6.Pages)):Nat):Int)] (sp 200 [z21,z23,z32,z33,z60,z74,z85,z90,z25,z56,z67,z68,z69,(113,bb true),(114,bb true),(115,.ptr 2 [] 1),z57,(117,ii v13.2),z80,z81,(120,bb true),(121,bb true),(122,bb true),(123,.ptr 2 [] 1),z58,(125,ii v12.2),z70,z71,(128,.sref 4 [0+(Int.toNat v12.2)*17+14+0] 0 (List.length (z6.Pages)) 3),(129,ii v14.2),(130,.ptr 4 [0+(Int.toNat v12.2)*17+14+0] (0+(Int.toNat v14.2)*3)),(131,.ptr 4 [0+(Int.toNat v12.2)*17+14+0] (0+(Int.toNat v14.2)*3+0))]) [z86,z24,z64,z55,z65] 5 (.cons hg1479 .nil) (yg (.load false 1 (.t 131)) (some 132) 122 true (op_load (c:=C_52) (xs:=z6.Pages) (e:=52) (r:=4) (π:=[0+(Int.toNat v12.2)*17+14+0]) (o:=0+(Int.toNat v14.2)*3+0) (i:=(Int.toNat v14.2)) (off:=0) (v:=ii (z12.Frame)) len_C_52 kr (get_fl (e:=55) (e':=52) (sz':=3) (m':=(List.length (z6.Pages))) (cs':=(fl C_52 (z6.Pages))) (c:=O_55) (xs:=s10.2.2.1) (i:=(Int.toNat v12.2)) (off:=14) len_O_55 kr ltn ltn dd rfl kr) ltn ltn dd kr ?_))
       refine yt (sp 200 [z21,z23,z32,z33,z60,z74,z85,z90,z91]) [z86,z24,z64,z55,z65] 5 ?_
       rcases cond_sf hh with ⟨hb,hh⟩ | ⟨hb,hh⟩
       · refine cF hb (Aw.skip (blk_m ?_))
         obtain rfl:=some_some hh
         exact hN11 (v14.1.b,v14.1.p,s10.2.2.1) _ _ _ hk11 (el [some 0,some 1,some 2,some 3,some 4] (rens_sp kr (rp 0 (ri (rp 1 (rp 2 (ri rl_n)))))) (hq (rB134 v14.1) rz (hq ⟨41,[.nil,.nil]⟩ rz (hq q23 rz (hn nr_eI (hn nr_O_55 hs_nil))))))
       refine cT hb (Aw.sreg [0,1,4,5,14,15,16,17] [0,1,2,3,4] ?_)
       obtain ⟨hg1478,hh⟩:=grd_some hh
       refine yjc 5 [(0:Int)≤v12.2∧v12.2<(((List.length s10.2.2.1):Nat):Int)] (sp 200 [z21,z23,z32,z33,z60,z74,z85,z90,z91,(135,.ptr 2 [] 1),z59,(137,ii v12.2),z72,z73]) [z86,z24,z64,z55,z65] 5 (.cons hg1478 .nil) (ys (.load false 1 (.t 139)) (some 140) (op_load (c:=O_55) (xs:=s10.2.2.1) (e:=55) (r:=4) (π:=[]) (o:=0+(Int.toNat v12.2)*17+14) (i:=(Int.toNat v12.2)) (off:=14) (v:=.sref 4 [0+(Int.toNat v12.2)*17+14+0] 0 (List.length (z6.Pages)) 3) len_O_55 kr kr ltn ltn dd kr ?_))
       obtain ⟨hg1477,hh⟩:=grd_some hh
       refine yjc 3 [(0:Int)≤v14.2∧v14.2<(((List.length (z6.Pages)):Nat):Int)] (sp 200 [z21,z23,z32,z33,z60,z74,z85,z90,z91,(135,.ptr 2 [] 1),z59,(137,ii v12.2),z72,z73,(140,.sref 4 [0+(Int.toNat v12.2)*17+14+0] 0 (List.length (z6.Pages)) 3),(141,ii v14.2),(142,.ptr 4 [0+(Int.toNat v12.2)*17+14+0] (0+(Int.toNat v14.2)*3)),(143,.ptr 4 [0+(Int.toNat v12.2)*17+14+0] (0+(Int.toNat v14.2)*3+1))]) [z86,z24,z64,z55,z65] 5 (.cons hg1477 .nil) ?_
       let q27:Root:=(rO55 (List.set s10.2.2.1 (Int.toNat v12.2) z17)); let z94:=(4,some q27)
       refine ys (.store 1 (.t 143) (.c (bb false))) none (op_store (c:=C_52) (xs:=z6.Pages) (e:=52) (r:=4) (π:=[0+(Int.toNat v12.2)*17+14+0]) (o:=0+(Int.toNat v14.2)*3+1) (i:=(Int.toNat v14.2)) (off:=1) (vs:=[bb false]) (y:=z14) (H':=[z94,z86,z24,z64,z55,z65]) len_C_52 kr kr kr (get_fl (e:=55) (e':=52) (sz':=3) (m':=(List.length (z6.Pages))) (cs':=(fl C_52 (z6.Pages))) (c:=O_55) (xs:=s10.2.2.1) (i:=(Int.toNat v12.2)) (off:=14) len_O_55 kr ltn ltn dd rfl kr) ltn ltn dd kr (put_fl (e:=55) (e':=52) (sz':=3) (m':=(List.length (z6.Pages))) (cs':=(fl C_52 (z6.Pages))) (ds:=(fl C_52 (List.set (z6.Pages) (Int.toNat v14.2) z14))) (c:=O_55) (xs:=s10.2.2.1) (i:=(Int.toNat v12.2)) (off:=14) (y:=z17) (m2:=(List.length (List.set (z6.Pages) (Int.toNat v14.2) z14))) len_O_55 kr ltn ltn dd rfl kr eqn kr rfl kr) ?_)
       refine yt (sp 200 [z21,z23,z32,z33,z60,z74,z85,z90]) [z86,z24,z64,z55,z94] 5 (Aw.oregd [0] kr ?_)
       obtain ⟨hg1476,hh⟩:=grd_some hh
       refine dc (cs:=[(0:Int)≤v13.2∧v13.2<(((List.length s10.2.2.1):Nat):Int)]) (E':=(sp 200 [z21,z23,z32,z33,z60,z74,z85,z90,z26,z61,z82,z83,z84])) (H':=[z86,z24,z64,z55,z94]) (n':=5) (fs':=none) (pre:=(List.take 5 (rg 131 36))) (L':=(List.drop 5 (rg 131 36))) kr (fun K=>by kernel_rfl) (.cons hg1476 .nil) (ds (.load false 1 (.t 148)) (some 149) (ydo_q rfl kr (op_load (c:=O_55) (xs:=(List.set s10.2.2.1 (Int.toNat v12.2) z17)) (e:=55) (r:=4) (π:=[]) (o:=0+(Int.toNat v13.2)*17+14) (i:=(Int.toNat v13.2)) (off:=14) (v:=.sref 4 [0+(Int.toNat v13.2)*17+14+0] 0 (List.length (z18.Pages)) 3) len_O_55 kr kr ltn ltn dd kr ?_)))
       refine dj 1 (sp 200 [z21,z23,z32,z33,z60,z74,z85,z90,z26,z61,z82,z83,z84,z93,z27]) [z86,z24,z64,z55,z94] 5 ?_
       obtain ⟨v15,hv15,hh⟩:=bind_some hh
       let z95:EH:=(0,some (rB134 v15.1)); let z96:=(151,ii v15.2); let z97:EV:=(166,.ptr 4 [0+(Int.toNat v13.2)*17+14+0] (0+(Int.toNat v15.2)*3))
       refine ds (.call 49 [(.t 150),(.c (ii 8))]) (some 151) (ydo_n rfl (cf (ii v15.2) [z95] 5 [0] (__spec_l20Rd__pick_fn hv15) [pp 0,ii 8] rz (hq (rB134 v14.1) (rens_same (nr_B_134 _)) hs_nil) ren_i (hq (rB134 v15.1) (rens_same (nr_B_134 _)) hs_nil) ⟨⟨agr_callf rfl rfl,Hld.un ?_⟩⟩))
       obtain ⟨hg1475,hh⟩:=grd_some hh
       refine dc (cs:=[(0:Int)≤v12.2∧v12.2<(((List.length s10.2.2.1):Nat):Int)]) (E':=(sp 200 [z21,z23,z32,z33,z60,z74,z85,z90,z26,z61,z82,z83,z84,z93,z27,z96,z28,z62,z75,z76,z77])) (H':=[z95,z20,z86,z24,z64,z55,z94]) (n':=5) (fs':=none) (pre:=(List.take 5 (List.drop 8 (rg 131 36)))) (L':=(List.drop 13 (rg 131 36))) kr (fun K=>by kernel_rfl) (.cons hg1475 .nil) (ds (.load false 1 (.t 156)) (some 157) (ydo_q rfl kr (op_loadE (getD_set_self ltn) (c:=O_55) (xs:=(List.set s10.2.2.1 (Int.toNat v12.2) z17)) (e:=55) (r:=4) (π:=[]) (o:=0+(Int.toNat v12.2)*17+14) (i:=(Int.toNat v12.2)) (off:=14) (v:=.sref 4 [0+(Int.toNat v12.2)*17+14+0] 0 (List.length (z6.Pages)) 3) len_O_55 kr kr ltn ltn dd (sref_len (n:=List.length (List.set (z6.Pages) (Int.toNat v14.2) z14)) kr eqn) ?_)))
       obtain ⟨hg1474,hh⟩:=grd_some hh
       refine dc (cs:=[(0:Int)≤v14.2∧v14.2<(((List.length (z6.Pages)):Nat):Int)]) (E':=(sp 200 [z21,z23,z32,z33,z60,z74,z85,z90,z26,z61,z82,z83,z84,z93,z27,z96,z28,z62,z75,z76,z77,z78,z87,z88,z89])) (H':=[z95,z20,z86,z24,z64,z55,z94]) (n':=5) (fs':=none) (pre:=(List.take 3 (List.drop 14 (rg 131 36)))) (L':=(List.drop 17 (rg 131 36))) kr (fun K=>by kernel_rfl) (.cons hg1474 .nil) (ds (.load false 1 (.t 160)) (some 161) (ydo_q rfl kr (op_loadE (getD_set_self ltn) (c:=C_52) (xs:=(List.set (z6.Pages) (Int.toNat v14.2) z14)) (e:=52) (r:=4) (π:=[0+(Int.toNat v12.2)*17+14+0]) (o:=0+(Int.toNat v14.2)*3+0) (i:=(Int.toNat v14.2)) (off:=0) (v:=ii (z12.Frame)) len_C_52 kr (get_fl (e:=55) (e':=52) (sz':=3) (m':=(List.length (z6.Pages))) (cs':=(fl C_52 (List.set (z6.Pages) (Int.toNat v14.2) z14))) (c:=O_55) (xs:=(List.set s10.2.2.1 (Int.toNat v12.2) z17)) (i:=(Int.toNat v12.2)) (off:=14) len_O_55 kr ltn ltn dd (getD_set_self ltn) (own_len (n:=List.length (List.set (z6.Pages) (Int.toNat v14.2) z14)) kr eqn)) ltn ltn dd kr ?_)))
       refine dj 1 (sp 200 [z21,z23,z32,z33,z60,z74,z85,z90,z26,z61,z82,z83,z84,z93,z27,z96,z28,z62,z75,z76,z77,z78,z87,z88,z89,z92,(162,pp 0)]) [z95,z20,z86,z24,z64,z55,z94] 5 ?_
       obtain ⟨v16,hv16,hh⟩:=bind_some hh
       let z98:EH:=(0,some (rB134 v16.1)); let z99:=(164,bb (decide (v16.2=(0:Int)))); let z100:EV:=(165,.agg [ii (z12.Frame),bb false,bb (decide (v16.2=(0:Int)))]); let z15:=DSlot.mk (z12.Frame) false (decide (v16.2=(0:Int))); let z19:=DGuest.mk (z18.Live) (z18.C) (List.set (z18.Pages) (Int.toNat v15.2) z15) (z18.In) (z18.Out)
       refine ds (.call 49 [(.t 162),(.c (ii 2))]) (some 163) (ydo_n rfl (cf (ii v16.2) [z98] 5 [0] (__spec_l20Rd__pick_fn hv16) [pp 0,ii 2] rz (hq (rB134 v15.1) (rens_same (nr_B_134 _)) hs_nil) ren_i (hq (rB134 v16.1) (rens_same (nr_B_134 _)) hs_nil) ⟨⟨agr_callf rfl rfl,Hld.un ?_⟩⟩))
       refine dt (sp 200 [z21,z23,z32,z33,z60,z74,z85,z90,z26,z61,z82,z83,z84,z93,z27,z96,z28,z62,z75,z76,z77,z78,z87,z88,z89,z92,(162,pp 0),(163,ii v16.2),z99,z100]) [z98,z20,z95,z20,z86,z24,z64,z55,z94] 5 ?_
       obtain ⟨hg1473,hh⟩:=grd_some hh
       refine yjc 1 [(0:Int)≤v15.2∧v15.2<(((List.length (z18.Pages)):Nat):Int)] (sp 200 [z21,z23,z32,z33,z60,z74,z85,z90,z26,z61,z82,z83,z84,z93,z27,z96,z28,z62,z75,z76,z77,z78,z87,z88,z89,z92,(162,pp 0),(163,ii v16.2),z99,z100,z97]) [z98,z20,z95,z20,z86,z24,z64,z55,z94] 5 (.cons hg1473 .nil) ?_
       let q28:Root:=(rO55 (List.set (List.set s10.2.2.1 (Int.toNat v12.2) z17) (Int.toNat v13.2) z19))
       refine ys (.store 3 (.t 166) (.t 165)) none (op_store (c:=C_52) (xs:=z18.Pages) (e:=52) (r:=4) (π:=[0+(Int.toNat v13.2)*17+14+0]) (o:=0+(Int.toNat v15.2)*3) (i:=(Int.toNat v15.2)) (off:=0) (vs:=[ii (z12.Frame),bb false,bb (decide (v16.2=(0:Int)))]) (y:=z15) (H':=[(4,some q28),z98,z20,z95,z20,z86,z24,z64,z55,z94]) len_C_52 kr kr kr (get_fl (e:=55) (e':=52) (sz':=3) (m':=(List.length (z18.Pages))) (cs':=(fl C_52 (z18.Pages))) (c:=O_55) (xs:=(List.set s10.2.2.1 (Int.toNat v12.2) z17)) (i:=(Int.toNat v13.2)) (off:=14) len_O_55 kr ltn ltn dd rfl kr) ltn ltn dd kr (put_fl (e:=55) (e':=52) (sz':=3) (m':=(List.length (z18.Pages))) (cs':=(fl C_52 (z18.Pages))) (ds:=(fl C_52 (List.set (z18.Pages) (Int.toNat v15.2) z15))) (c:=O_55) (xs:=(List.set s10.2.2.1 (Int.toNat v12.2) z17)) (i:=(Int.toNat v13.2)) (off:=14) (y:=z19) (m2:=(List.length (List.set (z18.Pages) (Int.toNat v15.2) z15))) len_O_55 kr ltn ltn dd rfl kr eqn kr rfl kr) ?_)
       refine ye (sp 200 [z21,z23,z32,z33,z60,z74,z85,z90,z26,z61,z82,z83,z84,z93,z27,z96,z28,z62,z75,z76,z77,z78,z87,z88,z89,z92,(162,pp 0),(163,ii v16.2),z99,z100,z97]) [(4,some q28),z98,z20,z95,z20,z86,z24,z64,z55,z94] 5 (blk_m ?_)
       obtain rfl:=some_some hh
       exact hN11 (v16.1.b,v16.1.p,(List.set (List.set s10.2.2.1 (Int.toNat v12.2) z17) (Int.toNat v13.2) z19)) _ _ _ hk11 (el [some 0,some 1,some 2,some 3,some 4] (rens_sp kr (rp 0 (ri (rp 1 (rp 2 (ri rl_n)))))) (hq (rB134 v16.1) rz (hq ⟨41,[.nil,.nil]⟩ rz (hq q23 rz (hn nr_eI (hn nr_O_55 hs_nil))))))
     refine cF hb (Aw.exit (then_x (hX10 _ _ _ _ _ (some_some hh) ?_)))
     intro hout
     rw [hout] at hk10
     refine blk_x ?_
     obtain rfl:=some_some hk10
     exact hN4 (s10.1,s10.2.1,s10.2.2.1) _ _ _ hk4 (el [some 0,some 1,some 2,some 3,some 4] (rens_sp kr (rp 0 (ri (rp 1 (rp 2 rl_n))))) (hq q22 rz (hq ⟨41,[.nil,.nil]⟩ rz (hq q23 rz (hn nr_eI (hn nr_O_55 hs_nil))))))
   intro Q3 hN3 hR3 hE3
   refine Aw.sreg [0,1,4,5,7,8] [0,1,2,3,4,5] (yj 1  (sp 200 [z21,z23,z32,z33,z36,(36,pp 0)]) [(0,some q4),z24,(2,some q5),(3,some q6),z39,(5,some q7)] 6 ?_)
   obtain ⟨v17,hv17,hh⟩:=bind_some hh
   refine ys (.call 49 [(.t 36),(.c (ii 3))]) (some 37) (cf (ii v17.2) [(0,some (rB134 v17.1))] 6 [0] (__spec_l20Rd__pick_fn hv17) [pp 0,ii 3] rz (hq q4 rz hs_nil) ren_i (hq (rB134 v17.1) (rens_same (nr_B_134 _)) hs_nil) ?_)
   refine yt (sp 200 [z21,z23,z32,z33,z36,(8,ii (w64 ((1:Int)+v17.2)))]) [(0,some (rB134 v17.1)),z24,(2,some q5),(3,some q6),z39,(5,some q7)] 6 (Aw.block ?_)
   obtain ⟨o18,hi18,hk18⟩:=bind_some hh
   refine Aw.iter (fun (s18:(List Int) × Int × (List Int) × (List DGuest) × (List Int) × Int × Int × Int × Int × Bool × Int × Int × Int × Bool × Bool × Bool × Bool × (List Int) × (List Int) × (List Int) × Int)=>sp 200 [(0,pp 0),(1,ii x_n),(4,pp 1),(5,pp 2),(7,pp 5),(8,ii s18.2.2.2.2.2.2.2.2.2.2.2.2.2.2.2.2.2.2.2.2)]) (fun (s18:(List Int) × Int × (List Int) × (List DGuest) × (List Int) × Int × Int × Int × Int × Bool × Int × Int × Int × Bool × Bool × Bool × Bool × (List Int) × (List Int) × (List Int) × Int)=>[(0,some ⟨134,[bo (eI .u8) s18.1,ii s18.2.1]⟩),(1,some ⟨41,[.nil,.nil]⟩),(2,some ⟨41,[sw 3 s18.2.2.1,.sref 4 [] 0 (List.length s18.2.2.2.1) 17]⟩),(3,some (rI_3 s18.2.2.1)),(4,some (rO55 s18.2.2.2.1)),(5,some ⟨27,[sw 6 s18.2.2.2.2.1,ii s18.2.2.2.2.2.1,ii s18.2.2.2.2.2.2.1,ii s18.2.2.2.2.2.2.2.1,ii s18.2.2.2.2.2.2.2.2.1,bb s18.2.2.2.2.2.2.2.2.2.1,ii s18.2.2.2.2.2.2.2.2.2.2.1,ii s18.2.2.2.2.2.2.2.2.2.2.2.1,ii s18.2.2.2.2.2.2.2.2.2.2.2.2.1,bb s18.2.2.2.2.2.2.2.2.2.2.2.2.2.1,bb s18.2.2.2.2.2.2.2.2.2.2.2.2.2.2.1,bb s18.2.2.2.2.2.2.2.2.2.2.2.2.2.2.2.1,bb s18.2.2.2.2.2.2.2.2.2.2.2.2.2.2.2.2.1,sw 7 s18.2.2.2.2.2.2.2.2.2.2.2.2.2.2.2.2.2.1,sw 8 s18.2.2.2.2.2.2.2.2.2.2.2.2.2.2.2.2.2.2.1,sw 9 s18.2.2.2.2.2.2.2.2.2.2.2.2.2.2.2.2.2.2.2.1]⟩),(6,some (rI_3 s18.2.2.2.2.1)),(7,some (rI_3 s18.2.2.2.2.2.2.2.2.2.2.2.2.2.2.2.2.2.1)),(8,some (rI_3 s18.2.2.2.2.2.2.2.2.2.2.2.2.2.2.2.2.2.2.1)),(9,some (rI_3 s18.2.2.2.2.2.2.2.2.2.2.2.2.2.2.2.2.2.2.2.1))]) 10 hi18 (el [some 0,some 1,some 2,some 3,some 4,some 5,none,none,none,none] (rens_sp kr (rp 0 (ri (rp 1 (rp 2 (rp 5 (ri rl_n))))))) (hq (rB134 v17.1) rz (hq ⟨41,[.nil,.nil]⟩ rz (hq q5 rz (hn nr_eI (hn nr_O_55 (hq q7 rz (hs_no dd rfl rfl (hs_no dd rfl rfl (hs_no dd rfl rfl (hs_no dd rfl rfl hs_nil))))))))))) ?_
   intro s18 u18 Q18 hh hN18 hX18 hR18
   let z101:=(40,bb (decide ((0:Int)<s18.2.2.2.2.2.2.2.2.2.2.2.2.2.2.2.2.2.2.2.2))); let z102:=(8,ii s18.2.2.2.2.2.2.2.2.2.2.2.2.2.2.2.2.2.2.2.2); let z103:=(81,sw 7 s18.2.2.2.2.2.2.2.2.2.2.2.2.2.2.2.2.2.1)
   unfold F_spec_l20Host_l18 at hh
   refine Aw.seq (Aw.sreg [0,1,4,5,7,8,40] [0,1,2,3,4,5,6,7,8,9] ?_)
   let q29:Root:=⟨134,[bo (eI .u8) s18.1,ii s18.2.1]⟩; let q30:Root:=⟨41,[sw 3 s18.2.2.1,.sref 4 [] 0 (List.length s18.2.2.2.1) 17]⟩; let z104:=(2,some q30); let q31:Root:=(rI_3 s18.2.2.1); let z105:=(3,some q31); let q32:Root:=(rO55 s18.2.2.2.1); let z106:=(4,some q32); let q33:Root:=⟨27,[sw 6 s18.2.2.2.2.1,ii s18.2.2.2.2.2.1,ii s18.2.2.2.2.2.2.1,ii s18.2.2.2.2.2.2.2.1,ii s18.2.2.2.2.2.2.2.2.1,bb s18.2.2.2.2.2.2.2.2.2.1,ii s18.2.2.2.2.2.2.2.2.2.2.1,ii s18.2.2.2.2.2.2.2.2.2.2.2.1,ii s18.2.2.2.2.2.2.2.2.2.2.2.2.1,bb s18.2.2.2.2.2.2.2.2.2.2.2.2.2.1,bb s18.2.2.2.2.2.2.2.2.2.2.2.2.2.2.1,bb s18.2.2.2.2.2.2.2.2.2.2.2.2.2.2.2.1,bb s18.2.2.2.2.2.2.2.2.2.2.2.2.2.2.2.2.1,sw 7 s18.2.2.2.2.2.2.2.2.2.2.2.2.2.2.2.2.2.1,sw 8 s18.2.2.2.2.2.2.2.2.2.2.2.2.2.2.2.2.2.2.1,sw 9 s18.2.2.2.2.2.2.2.2.2.2.2.2.2.2.2.2.2.2.2.1]⟩; let z107:=(5,some q33); let q34:Root:=(rI_3 s18.2.2.2.2.1); let z108:=(6,some q34); let q35:Root:=(rI_3 s18.2.2.2.2.2.2.2.2.2.2.2.2.2.2.2.2.2.1); let z109:=(7,some q35); let q36:Root:=(rI_3 s18.2.2.2.2.2.2.2.2.2.2.2.2.2.2.2.2.2.2.1); let z110:=(8,some q36); let q37:Root:=(rI_3 s18.2.2.2.2.2.2.2.2.2.2.2.2.2.2.2.2.2.2.2.1); let z111:=(9,some q37)
   refine yt (sp 200 [z21,z23,z32,z33,z36,z102,z101]) [(0,some q29),z24,z104,z105,z106,z107,z108,z109,z110,z111] 10 ?_
   rcases cond_some hh with ⟨hb,hh⟩ | ⟨hb,hh⟩
   · refine cT hb (Aw.xskip (fun _ _ _ hq=>then_m hq) ?_)
     obtain ⟨j19,hh,hk19⟩:=bind_some hh
     refine Aw.join (S:=(List Int) × Int × (List Int) × (List DGuest) × (List Int) × Int × Int × Int × Int × Bool × Int × Int × Int × Bool × Bool × Bool × Bool × (List Int) × (List Int) × (List Int)) (fun s19=>sp 200 [(0,pp 0),(1,ii x_n),(4,pp 1),(5,pp 2),(7,pp 5),(8,ii s18.2.2.2.2.2.2.2.2.2.2.2.2.2.2.2.2.2.2.2.2)]) (fun s19=>[(0,some ⟨134,[bo (eI .u8) s19.1,ii s19.2.1]⟩),(1,some ⟨41,[.nil,.nil]⟩),(2,some ⟨41,[sw 3 s19.2.2.1,.sref 4 [] 0 (List.length s19.2.2.2.1) 17]⟩),(3,some (rI_3 s19.2.2.1)),(4,some (rO55 s19.2.2.2.1)),(5,some ⟨27,[sw 6 s19.2.2.2.2.1,ii s19.2.2.2.2.2.1,ii s19.2.2.2.2.2.2.1,ii s19.2.2.2.2.2.2.2.1,ii s19.2.2.2.2.2.2.2.2.1,bb s19.2.2.2.2.2.2.2.2.2.1,ii s19.2.2.2.2.2.2.2.2.2.2.1,ii s19.2.2.2.2.2.2.2.2.2.2.2.1,ii s19.2.2.2.2.2.2.2.2.2.2.2.2.1,bb s19.2.2.2.2.2.2.2.2.2.2.2.2.2.1,bb s19.2.2.2.2.2.2.2.2.2.2.2.2.2.2.1,bb s19.2.2.2.2.2.2.2.2.2.2.2.2.2.2.2.1,bb s19.2.2.2.2.2.2.2.2.2.2.2.2.2.2.2.2.1,sw 7 s19.2.2.2.2.2.2.2.2.2.2.2.2.2.2.2.2.2.1,sw 8 s19.2.2.2.2.2.2.2.2.2.2.2.2.2.2.2.2.2.2.1,sw 9 s19.2.2.2.2.2.2.2.2.2.2.2.2.2.2.2.2.2.2.2]⟩),(6,some (rI_3 s19.2.2.2.2.1)),(7,some (rI_3 s19.2.2.2.2.2.2.2.2.2.2.2.2.2.2.2.2.2.1)),(8,some (rI_3 s19.2.2.2.2.2.2.2.2.2.2.2.2.2.2.2.2.2.2.1)),(9,some (rI_3 s19.2.2.2.2.2.2.2.2.2.2.2.2.2.2.2.2.2.2.2))]) 10 (fun s19=>F_spec_l20Host_j19 s18 s19=some u18) ?_ ?_
     · intro s19 hh
       unfold F_spec_l20Host_j19 at hh
       refine Aw.oreg ?_
       let q38:Root:=⟨134,[bo (eI .u8) s19.1,ii s19.2.1]⟩; let q39:Root:=⟨41,[sw 3 s19.2.2.1,.sref 4 [] 0 (List.length s19.2.2.2.1) 17]⟩; let q40:Root:=(rI_3 s19.2.2.1); let q41:Root:=(rO55 s19.2.2.2.1); let q42:Root:=⟨27,[sw 6 s19.2.2.2.2.1,ii s19.2.2.2.2.2.1,ii s19.2.2.2.2.2.2.1,ii s19.2.2.2.2.2.2.2.1,ii s19.2.2.2.2.2.2.2.2.1,bb s19.2.2.2.2.2.2.2.2.2.1,ii s19.2.2.2.2.2.2.2.2.2.2.1,ii s19.2.2.2.2.2.2.2.2.2.2.2.1,ii s19.2.2.2.2.2.2.2.2.2.2.2.2.1,bb s19.2.2.2.2.2.2.2.2.2.2.2.2.2.1,bb s19.2.2.2.2.2.2.2.2.2.2.2.2.2.2.1,bb s19.2.2.2.2.2.2.2.2.2.2.2.2.2.2.2.1,bb s19.2.2.2.2.2.2.2.2.2.2.2.2.2.2.2.2.1,sw 7 s19.2.2.2.2.2.2.2.2.2.2.2.2.2.2.2.2.2.1,sw 8 s19.2.2.2.2.2.2.2.2.2.2.2.2.2.2.2.2.2.2.1,sw 9 s19.2.2.2.2.2.2.2.2.2.2.2.2.2.2.2.2.2.2.2]⟩; let q43:Root:=(rI_3 s19.2.2.2.2.1); let q44:Root:=(rI_3 s19.2.2.2.2.2.2.2.2.2.2.2.2.2.2.2.2.2.1); let q45:Root:=(rI_3 s19.2.2.2.2.2.2.2.2.2.2.2.2.2.2.2.2.2.2.1); let q46:Root:=(rI_3 s19.2.2.2.2.2.2.2.2.2.2.2.2.2.2.2.2.2.2.2)
       exact ye (sp 200 [z21,z23,z32,z33,z36,(8,ii (w64 (s18.2.2.2.2.2.2.2.2.2.2.2.2.2.2.2.2.2.2.2.2 - (1:Int)))),(41,ii s18.2.2.2.2.2.2.2.2.2.2.2.2.2.2.2.2.2.2.2.2),(42,ii (w64 (s18.2.2.2.2.2.2.2.2.2.2.2.2.2.2.2.2.2.2.2.2 - (1:Int))))]) [(0,some q38),z24,(2,some q39),(3,some q40),(4,some q41),(5,some q42),(6,some q43),(7,some q44),(8,some q45),(9,some q46)] 10 (hN18 (s19.1,s19.2.1,s19.2.2.1,s19.2.2.2.1,s19.2.2.2.2.1,s19.2.2.2.2.2.1,s19.2.2.2.2.2.2.1,s19.2.2.2.2.2.2.2.1,s19.2.2.2.2.2.2.2.2.1,s19.2.2.2.2.2.2.2.2.2.1,s19.2.2.2.2.2.2.2.2.2.2.1,s19.2.2.2.2.2.2.2.2.2.2.2.1,s19.2.2.2.2.2.2.2.2.2.2.2.2.1,s19.2.2.2.2.2.2.2.2.2.2.2.2.2.1,s19.2.2.2.2.2.2.2.2.2.2.2.2.2.2.1,s19.2.2.2.2.2.2.2.2.2.2.2.2.2.2.2.1,s19.2.2.2.2.2.2.2.2.2.2.2.2.2.2.2.2.1,s19.2.2.2.2.2.2.2.2.2.2.2.2.2.2.2.2.2.1,s19.2.2.2.2.2.2.2.2.2.2.2.2.2.2.2.2.2.2.1,s19.2.2.2.2.2.2.2.2.2.2.2.2.2.2.2.2.2.2.2,(w64 (s18.2.2.2.2.2.2.2.2.2.2.2.2.2.2.2.2.2.2.2.2 - (1:Int)))) _ _ _ (some_some hh) (el [some 0,some 1,some 2,some 3,some 4,some 5,some 6,some 7,some 8,some 9] (rens_sp kr (rp 0 (ri (rp 1 (rp 2 (rp 5 (ri rl_n))))))) (hq q38 rz (hq ⟨41,[.nil,.nil]⟩ rz (hq q39 rz (hn nr_eI (hn nr_O_55 (hq q42 rz (hn nr_eI (hn nr_eI (hn nr_eI (hn nr_eI hs_nil))))))))))))
     intro Q19 hN19 hR19 hE19
     refine Aw.block (Aw.sreg [0,1,4,5,7,8,9] [0,1,2,3,4,5,6,7,8,9,10,11,12,13,14] (yj 1  (sp 200 [z21,z23,z32,z33,z36,z102,z101,(43,pp 0)]) [(0,some q29),z24,z104,z105,z106,z107,z108,z109,z110,z111] 10 ?_))
     obtain ⟨v20,hv20,hh⟩:=bind_some hh
     let z112:EH:=(0,some (rB134 v20.1)); let q47:Root:=(rI_3 v20.2.Out); let z113:=(14,some q47); let q48:Root:=(rI_3 v20.2.In); let z114:=(13,some q48); let q49:Root:=(rI_3 v20.2.Mem); let q50:Root:=(rI_3 v20.2.C.Regs); let z115:=(11,some q50)
     refine ys (.call 48 [(.t 43),(.c (ii 0))]) (some 44) (cf (.agg (sw 10 v20.2.C.Regs::ru25 v20.2.C [sw 11 v20.2.Mem,sw 12 v20.2.In,sw 13 v20.2.Out])) [(13,some q47),(12,some q48),(11,some q49),(10,some q50),z112] 14 [0] (spec_l20Bare_fn hv20) [pp 0,ii 0] rz (hq q29 rz hs_nil) (ren_agg rz) (hn nr_eI (hn nr_eI (hn nr_eI (hn nr_eI (hq (rB134 v20.1) (rens_same (nr_B_134 _)) hs_nil))))) ?_)
     let q51:Root:=⟨27,(sw 10 v20.2.C.Regs::ru25 v20.2.C [sw 11 v20.2.Mem,sw 12 v20.2.In,sw 13 v20.2.Out])⟩
     refine yt (sp 200 [z21,z23,z32,z33,z36,z102,(9,pp 14)]) [z112,z24,z104,z105,z106,z107,z108,z109,z110,z111,(10,some q50),(11,some q49),(12,some q48),(13,some q47),(14,some q51)] 15 ?_
     obtain ⟨j21,hh,hk21⟩:=bind_some hh
     refine Aw.join (S:=(List Int) × Int × (List Int)) (fun s21=>sp 200 [(0,pp 0),(1,ii x_n),(4,pp 1),(5,pp 2),(7,pp 5),(8,ii s18.2.2.2.2.2.2.2.2.2.2.2.2.2.2.2.2.2.2.2.2),(9,pp 10)]) (fun s21=>[(0,some ⟨134,[bo (eI .u8) s21.1,ii s21.2.1]⟩),(1,some ⟨41,[.nil,.nil]⟩),(2,some ⟨41,[sw 3 s18.2.2.1,.sref 4 [] 0 (List.length s18.2.2.2.1) 17]⟩),(3,some (rI_3 s18.2.2.1)),(4,some (rO55 s18.2.2.2.1)),(5,some ⟨27,[sw 6 s18.2.2.2.2.1,ii s18.2.2.2.2.2.1,ii s18.2.2.2.2.2.2.1,ii s18.2.2.2.2.2.2.2.1,ii s18.2.2.2.2.2.2.2.2.1,bb s18.2.2.2.2.2.2.2.2.2.1,ii s18.2.2.2.2.2.2.2.2.2.2.1,ii s18.2.2.2.2.2.2.2.2.2.2.2.1,ii s18.2.2.2.2.2.2.2.2.2.2.2.2.1,bb s18.2.2.2.2.2.2.2.2.2.2.2.2.2.1,bb s18.2.2.2.2.2.2.2.2.2.2.2.2.2.2.1,bb s18.2.2.2.2.2.2.2.2.2.2.2.2.2.2.2.1,bb s18.2.2.2.2.2.2.2.2.2.2.2.2.2.2.2.2.1,sw 7 s18.2.2.2.2.2.2.2.2.2.2.2.2.2.2.2.2.2.1,sw 8 s18.2.2.2.2.2.2.2.2.2.2.2.2.2.2.2.2.2.2.1,sw 9 s18.2.2.2.2.2.2.2.2.2.2.2.2.2.2.2.2.2.2.2.1]⟩),(6,some (rI_3 s18.2.2.2.2.1)),(7,some (rI_3 s18.2.2.2.2.2.2.2.2.2.2.2.2.2.2.2.2.2.1)),(8,some (rI_3 s18.2.2.2.2.2.2.2.2.2.2.2.2.2.2.2.2.2.2.1)),(9,some (rI_3 s18.2.2.2.2.2.2.2.2.2.2.2.2.2.2.2.2.2.2.2.1)),(10,some ⟨27,(sw 11 v20.2.C.Regs::ru25 v20.2.C [sw 12 s21.2.2,sw 13 v20.2.In,sw 14 v20.2.Out])⟩),(11,some (rI_3 v20.2.C.Regs)),(12,some (rI_3 s21.2.2)),(13,some (rI_3 v20.2.In)),(14,some (rI_3 v20.2.Out))]) 15 (fun s21=>F_spec_l20Host_j21 s18 v20 s21=some j19) ?_ ?_
     · intro s21 hh
       unfold F_spec_l20Host_j21 at hh
       refine Aw.sreg [0,1,4,5,7,8,9] [0,1,2,3,4,5,10,11,12,13,14] ?_
       let q52:Root:=⟨134,[bo (eI .u8) s21.1,ii s21.2.1]⟩; let z116:=(0,some q52); let q53:Root:=⟨27,(sw 11 v20.2.C.Regs::ru25 v20.2.C [sw 12 s21.2.2,sw 13 v20.2.In,sw 14 v20.2.Out])⟩; let z117:=(5,some q53); let q54:Root:=(rI_3 s21.2.2); let z118:=(12,some q54)
       refine yt (sp 200 [z21,z23,z32,z33,z36,z102,z38]) [z116,z24,z104,z105,z106,z117,(10,some q53),z115,z118,z114,z113] 15 (Aw.sreg [0,1,4,5,7,8,11,13] [0,1,2,3,4,5,11,12,13,14,15,16,17] (yu 2 [(88,.agg [sw 3 s18.2.2.1,.sref 4 [] 0 (List.length s18.2.2.2.1) 17]),(89,.agg (sw 11 v20.2.C.Regs::ru25 v20.2.C [sw 12 s21.2.2,sw 13 v20.2.In,sw 14 v20.2.Out]))] [z116,z24,z104,z105,z106,z117,(10,some q53),z115,z118,z114,z113] 15 ?_))
       obtain ⟨v22,hv22,hh⟩:=bind_some hh
       let q55:Root:=(rO55 v22.1.Guests); let q56:Root:=(rI_3 v22.1.Words)
       refine ys (.call 161 [(.t 88),(.t 89)]) (some 90) (op_call (r:=.tup [.agg [.own 3 1 (List.length v22.1.Words) (fl (eI .i64) v22.1.Words),.own 55 17 (List.length v22.1.Guests) (fl O_55 v22.1.Guests)],ii v22.2.1,bb v22.2.2]) (v:=.tup [.agg [sw 15 v22.1.Words,.sref 16 [] 0 (List.length v22.1.Guests) 17],ii v22.2.1,bb v22.2.2]) (Hr:=[(16,some q55),(15,some q56)]) (n':=17) (spec_HostBoot_fn hv22) (clz_v (vs:=[.agg [sw 3 s18.2.2.1,.sref 4 [] 0 (List.length s18.2.2.2.1) 17],.agg (sw 11 v20.2.C.Regs::ru25 v20.2.C [sw 12 s21.2.2,sw 13 v20.2.In,sw 14 v20.2.Out])]) kr (clz_c (clo_agg (clos_c (clo_own (c:=(eI .i64)) (xs:=s18.2.2.1) (e:=3) eqn len_eI no_eI cl_eI kr) (clos_c (clo_flr (B:=B_55) (xs:=s18.2.2.2.1) (e:=55) oc_O_55 len_O_55 eqn kr) clos_n))) (clz_c (clo_agg (clos_c (clo_own (c:=(eI .i64)) (xs:=v20.2.C.Regs) (e:=3) eqn len_eI no_eI cl_eI kr) (cs1 (cs1 (cs1 (cs1 (cs1 (cs1 (cs1 (cs1 (cs1 (cs1 (cs1 (cs1 (clos_c (clo_own (c:=(eI .i64)) (xs:=s21.2.2) (e:=3) eqn len_eI no_eI cl_eI kr) (clos_c (clo_own (c:=(eI .i64)) (xs:=v20.2.In) (e:=3) eqn len_eI no_eI cl_eI kr) (clos_c (clo_own (c:=(eI .i64)) (xs:=v20.2.Out) (e:=3) eqn len_eI no_eI cl_eI kr) clos_n))))))))))))))))) clz_n))) nrr nrr kr ?_)
       let q57:Root:=⟨41,[sw 15 v22.1.Words,.sref 16 [] 0 (List.length v22.1.Guests) 17]⟩
       refine yt (sp 200 [z21,z23,z32,z33,z36,z102,(11,pp 17),(13,bb v22.2.2)]) [z116,z24,z104,z105,z106,z117,z115,z118,z114,z113,(15,some q56),(16,some q55),(17,some q57)] 18 (sy [0,1,4,5,7,8,11,94] [0,1,2,3,4,5,11,12,13,14,15,16,17] (sp 200 [z21,z23,z32,z33,z36,z102,(11,pp 17),(94,bb v22.2.2)]) [z116,z24,z104,z105,z106,z117,z115,z118,z114,z113,(15,some q56),(16,some q55),(17,some q57)] 18 ?_)
       rcases cond_some hh with ⟨hb,hh⟩ | ⟨hb,hh⟩
       · refine cT hb (Aw.oreg (ye (sp 200 [z21,z23,z32,z33,z36,z102,(11,pp 17),(94,bb v22.2.2),(95,.agg [sw 15 v22.1.Words,.sref 16 [] 0 (List.length v22.1.Guests) 17])]) [(2,some q57),z116,z24,z104,z105,z106,z117,z115,z118,z114,z113,(15,some q56),(16,some q55),(17,some q57)] 18 (blk_m ?_)))
         obtain rfl:=some_some hh
         exact hN19 (s21.1,s21.2.1,v22.1.Words,v22.1.Guests,v20.2.C.Regs,v20.2.C.Pc,v20.2.C.Root,v20.2.C.Vector,v20.2.C.Saved,v20.2.C.SavedUser,v20.2.C.Cause,v20.2.C.Bad,v20.2.C.Timer,v20.2.C.Waits,v20.2.C.User,v20.2.C.On,v20.2.C.Stopped,s21.2.2,v20.2.In,v20.2.Out) _ _ _ hk19 (el [some 0,some 1,some 2,some 15,some 16,some 5,some 11,some 12,some 13,some 14] (rens_sp kr (rp 0 (ri (rp 1 (rp 2 (rp 5 (ri rl_n))))))) (hq q52 rz (hq ⟨41,[.nil,.nil]⟩ rz (hq q57 rz (hn nr_eI (hn nr_O_55 (hq q53 rz (hn nr_eI (hn nr_eI (hn nr_eI (hn nr_eI hs_nil)))))))))))
       refine cF hb (Aw.skip (blk_m ?_))
       obtain rfl:=some_some hh
       exact hN19 (s21.1,s21.2.1,s18.2.2.1,s18.2.2.2.1,v20.2.C.Regs,v20.2.C.Pc,v20.2.C.Root,v20.2.C.Vector,v20.2.C.Saved,v20.2.C.SavedUser,v20.2.C.Cause,v20.2.C.Bad,v20.2.C.Timer,v20.2.C.Waits,v20.2.C.User,v20.2.C.On,v20.2.C.Stopped,s21.2.2,v20.2.In,v20.2.Out) _ _ _ hk19 (el [some 0,some 1,some 2,some 3,some 4,some 5,some 11,some 12,some 13,some 14] (rens_sp kr (rp 0 (ri (rp 1 (rp 2 (rp 5 (ri rl_n))))))) (hq q52 rz (hq ⟨41,[.nil,.nil]⟩ rz (hq q30 rz (hn nr_eI (hn nr_O_55 (hq q53 rz (hn nr_eI (hn nr_eI (hn nr_eI (hn nr_eI hs_nil)))))))))))
     intro Q21 hN21 hR21 hE21
     refine sy [0,1,4,5,7,8,9,10] [0,1,2,3,4,5,6,7,8,9,10,11,12,13,14] (sp 200 [z21,z23,z32,z33,z36,z102,(9,pp 14),(10,ii 0)]) [z112,z24,z104,z105,z106,z107,z108,z109,z110,z111,(10,some q50),(11,some q49),(12,some q48),(13,some q47),(14,some q51)] 15 (Aw.block ?_)
     obtain ⟨o23,hi23,hk23⟩:=bind_some hh
     refine Aw.iter (fun (s23:(List Int) × Int × (List Int) × Int)=>sp 200 [(0,pp 0),(1,ii x_n),(4,pp 1),(5,pp 2),(7,pp 5),(8,ii s18.2.2.2.2.2.2.2.2.2.2.2.2.2.2.2.2.2.2.2.2),(9,pp 10),(10,ii s23.2.2.2)]) (fun (s23:(List Int) × Int × (List Int) × Int)=>[(0,some ⟨134,[bo (eI .u8) s23.1,ii s23.2.1]⟩),(1,some ⟨41,[.nil,.nil]⟩),(2,some ⟨41,[sw 3 s18.2.2.1,.sref 4 [] 0 (List.length s18.2.2.2.1) 17]⟩),(3,some (rI_3 s18.2.2.1)),(4,some (rO55 s18.2.2.2.1)),(5,some ⟨27,[sw 6 s18.2.2.2.2.1,ii s18.2.2.2.2.2.1,ii s18.2.2.2.2.2.2.1,ii s18.2.2.2.2.2.2.2.1,ii s18.2.2.2.2.2.2.2.2.1,bb s18.2.2.2.2.2.2.2.2.2.1,ii s18.2.2.2.2.2.2.2.2.2.2.1,ii s18.2.2.2.2.2.2.2.2.2.2.2.1,ii s18.2.2.2.2.2.2.2.2.2.2.2.2.1,bb s18.2.2.2.2.2.2.2.2.2.2.2.2.2.1,bb s18.2.2.2.2.2.2.2.2.2.2.2.2.2.2.1,bb s18.2.2.2.2.2.2.2.2.2.2.2.2.2.2.2.1,bb s18.2.2.2.2.2.2.2.2.2.2.2.2.2.2.2.2.1,sw 7 s18.2.2.2.2.2.2.2.2.2.2.2.2.2.2.2.2.2.1,sw 8 s18.2.2.2.2.2.2.2.2.2.2.2.2.2.2.2.2.2.2.1,sw 9 s18.2.2.2.2.2.2.2.2.2.2.2.2.2.2.2.2.2.2.2.1]⟩),(6,some (rI_3 s18.2.2.2.2.1)),(7,some (rI_3 s18.2.2.2.2.2.2.2.2.2.2.2.2.2.2.2.2.2.1)),(8,some (rI_3 s18.2.2.2.2.2.2.2.2.2.2.2.2.2.2.2.2.2.2.1)),(9,some (rI_3 s18.2.2.2.2.2.2.2.2.2.2.2.2.2.2.2.2.2.2.2.1)),(10,some ⟨27,(sw 11 v20.2.C.Regs::ru25 v20.2.C [sw 12 s23.2.2.1,sw 13 v20.2.In,sw 14 v20.2.Out])⟩),(11,some (rI_3 v20.2.C.Regs)),(12,some (rI_3 s23.2.2.1)),(13,some (rI_3 v20.2.In)),(14,some (rI_3 v20.2.Out))]) 15 hi23 (el [some 0,some 1,some 2,some 3,some 4,some 5,some 6,some 7,some 8,some 9,some 14,some 10,some 11,some 12,some 13] (rens_sp kr (rp 0 (ri (rp 1 (rp 2 (rp 5 (ri (rp 14 (ri rl_n))))))))) (hq (rB134 v20.1) rz (hq ⟨41,[.nil,.nil]⟩ rz (hq q30 rz (hn nr_eI (hn nr_O_55 (hq q33 rz (hn nr_eI (hn nr_eI (hn nr_eI (hn nr_eI (hq q51 rz (hn nr_eI (hn nr_eI (hn nr_eI (hn nr_eI hs_nil)))))))))))))))) ?_
     intro s23 u23 Q23 hh hN23 hX23 hR23
     let z119:=(10,ii s23.2.2.2); let z120:=(46,bb (decide (s23.2.2.2<(8:Int)))); let z121:=(57,sw 12 s23.2.2.1); let z122:=(59,ii (w64 (s23.2.2.2*(8:Int)))); let z123:EV:=(60,.sref 12 [] (0+Int.toNat (w64 (s23.2.2.2*(8:Int)))*1) (Int.toNat (((List.length s23.2.2.1):Nat):Int) - Int.toNat (w64 (s23.2.2.2*(8:Int)))) 1); let z124:=(74,ii s23.2.2.2); let z125:=(75,ii (w64 (s23.2.2.2*(8:Int)))); let z126:=(76,ii s23.2.2.2); let z127:=(77,ii (w64 (s23.2.2.2+(1:Int)))); let z128:=(78,ii (w64 ((w64 (s23.2.2.2+(1:Int)))*(8:Int)))); let z129:EV:=(79,.sref 12 [] (0+Int.toNat (w64 (s23.2.2.2*(8:Int)))*1) (Int.toNat (w64 ((w64 (s23.2.2.2+(1:Int)))*(8:Int))) - Int.toNat (w64 (s23.2.2.2*(8:Int)))) 1); let z130:=(83,ii (w64 (s23.2.2.2*(8:Int)))); let z131:EV:=(84,.sref 7 [] (0+Int.toNat (w64 (s23.2.2.2*(8:Int)))*1) (Int.toNat (((List.length s18.2.2.2.2.2.2.2.2.2.2.2.2.2.2.2.2.2.1):Nat):Int) - Int.toNat (w64 (s23.2.2.2*(8:Int)))) 1); let z8:=List.drop (Int.toNat (w64 (s23.2.2.2*(8:Int)))) s18.2.2.2.2.2.2.2.2.2.2.2.2.2.2.2.2.2.1; let z13:=List.take (Int.toNat (((List.length s18.2.2.2.2.2.2.2.2.2.2.2.2.2.2.2.2.2.1):Nat):Int) - Int.toNat (w64 (s23.2.2.2*(8:Int)))) z8; let z9:=over s23.2.2.1 (Int.toNat (w64 (s23.2.2.2*(8:Int)))) (Int.toNat (((List.length s23.2.2.1):Nat):Int) - Int.toNat (w64 (s23.2.2.2*(8:Int)))) (List.replicate (Int.toNat (8:Int)) (0:Int))
     unfold F_spec_l20Host_l23 at hh
     refine Aw.seq (Aw.sreg [0,1,4,5,7,8,9,10,46] [0,1,2,3,4,5,6,7,8,9,10,11,12,13,14] ?_)
     let q58:Root:=⟨134,[bo (eI .u8) s23.1,ii s23.2.1]⟩; let q59:Root:=⟨27,(sw 11 v20.2.C.Regs::ru25 v20.2.C [sw 12 s23.2.2.1,sw 13 v20.2.In,sw 14 v20.2.Out])⟩; let z132:=(10,some q59); let q60:Root:=(rI_3 s23.2.2.1); let z133:=(12,some q60)
     refine yt (sp 200 [z21,z23,z32,z33,z36,z102,z38,z119,z120]) [(0,some q58),z24,z104,z105,z106,z107,z108,z109,z110,z111,z132,z115,z133,z114,z113] 15 ?_
     rcases cond_sf hh with ⟨hb,hh⟩ | ⟨hb,hh⟩
     · refine cF hb (Aw.exit (then_x (hX23 _ _ _ _ _ (some_some hh) ?_)))
       intro hout
       rw [hout] at hk23
       refine blk_x ?_
       obtain rfl:=some_some hk23
       exact hN21 (s23.1,s23.2.1,s23.2.2.1) _ _ _ hk21 (el [some 0,some 1,some 2,some 3,some 4,some 5,some 6,some 7,some 8,some 9,some 10,some 11,some 12,some 13,some 14] (rens_sp kr (rp 0 (ri (rp 1 (rp 2 (rp 5 (ri (rp 10 rl_n)))))))) (hq q58 rz (hq ⟨41,[.nil,.nil]⟩ rz (hq q30 rz (hn nr_eI (hn nr_O_55 (hq q33 rz (hn nr_eI (hn nr_eI (hn nr_eI (hn nr_eI (hq q59 rz (hn nr_eI (hn nr_eI (hn nr_eI (hn nr_eI hs_nil))))))))))))))))
     refine cT hb (Aw.xskip (fun _ _ _ hq=>then_m hq) ?_)
     obtain ⟨j24,hh,hk24⟩:=bind_some hh
     refine Aw.join (S:=(List Int) × Int × (List Int)) (fun s24=>sp 200 [(0,pp 0),(1,ii x_n),(4,pp 1),(5,pp 2),(7,pp 5),(8,ii s18.2.2.2.2.2.2.2.2.2.2.2.2.2.2.2.2.2.2.2.2),(9,pp 10),(10,ii s23.2.2.2)]) (fun s24=>[(0,some ⟨134,[bo (eI .u8) s24.1,ii s24.2.1]⟩),(1,some ⟨41,[.nil,.nil]⟩),(2,some ⟨41,[sw 3 s18.2.2.1,.sref 4 [] 0 (List.length s18.2.2.2.1) 17]⟩),(3,some (rI_3 s18.2.2.1)),(4,some (rO55 s18.2.2.2.1)),(5,some ⟨27,[sw 6 s18.2.2.2.2.1,ii s18.2.2.2.2.2.1,ii s18.2.2.2.2.2.2.1,ii s18.2.2.2.2.2.2.2.1,ii s18.2.2.2.2.2.2.2.2.1,bb s18.2.2.2.2.2.2.2.2.2.1,ii s18.2.2.2.2.2.2.2.2.2.2.1,ii s18.2.2.2.2.2.2.2.2.2.2.2.1,ii s18.2.2.2.2.2.2.2.2.2.2.2.2.1,bb s18.2.2.2.2.2.2.2.2.2.2.2.2.2.1,bb s18.2.2.2.2.2.2.2.2.2.2.2.2.2.2.1,bb s18.2.2.2.2.2.2.2.2.2.2.2.2.2.2.2.1,bb s18.2.2.2.2.2.2.2.2.2.2.2.2.2.2.2.2.1,sw 7 s18.2.2.2.2.2.2.2.2.2.2.2.2.2.2.2.2.2.1,sw 8 s18.2.2.2.2.2.2.2.2.2.2.2.2.2.2.2.2.2.2.1,sw 9 s18.2.2.2.2.2.2.2.2.2.2.2.2.2.2.2.2.2.2.2.1]⟩),(6,some (rI_3 s18.2.2.2.2.1)),(7,some (rI_3 s18.2.2.2.2.2.2.2.2.2.2.2.2.2.2.2.2.2.1)),(8,some (rI_3 s18.2.2.2.2.2.2.2.2.2.2.2.2.2.2.2.2.2.2.1)),(9,some (rI_3 s18.2.2.2.2.2.2.2.2.2.2.2.2.2.2.2.2.2.2.2.1)),(10,some ⟨27,(sw 11 v20.2.C.Regs::ru25 v20.2.C [sw 12 s24.2.2,sw 13 v20.2.In,sw 14 v20.2.Out])⟩),(11,some (rI_3 v20.2.C.Regs)),(12,some (rI_3 s24.2.2)),(13,some (rI_3 v20.2.In)),(14,some (rI_3 v20.2.Out))]) 15 (fun s24=>F_spec_l20Host_j24 s23 s24=some u23) ?_ ?_
     · intro s24 hh
       unfold F_spec_l20Host_j24 at hh
       refine Aw.oreg ?_
       let q61:Root:=⟨134,[bo (eI .u8) s24.1,ii s24.2.1]⟩; let q62:Root:=⟨27,(sw 11 v20.2.C.Regs::ru25 v20.2.C [sw 12 s24.2.2,sw 13 v20.2.In,sw 14 v20.2.Out])⟩; let q63:Root:=(rI_3 s24.2.2)
       exact ye (sp 200 [z21,z23,z32,z33,z36,z102,z38,(10,ii (w64 (s23.2.2.2+(1:Int)))),(47,ii s23.2.2.2),(48,ii (w64 (s23.2.2.2+(1:Int))))]) [(0,some q61),z24,z104,z105,z106,z107,z108,z109,z110,z111,(10,some q62),z115,(12,some q63),z114,z113] 15 (hN23 (s24.1,s24.2.1,s24.2.2,(w64 (s23.2.2.2+(1:Int)))) _ _ _ (some_some hh) (el [some 0,some 1,some 2,some 3,some 4,some 5,some 6,some 7,some 8,some 9,some 10,some 11,some 12,some 13,some 14] (rens_sp kr (rp 0 (ri (rp 1 (rp 2 (rp 5 (ri (rp 10 (ri rl_n))))))))) (hq q61 rz (hq ⟨41,[.nil,.nil]⟩ rz (hq q30 rz (hn nr_eI (hn nr_O_55 (hq q33 rz (hn nr_eI (hn nr_eI (hn nr_eI (hn nr_eI (hq q62 rz (hn nr_eI (hn nr_eI (hn nr_eI (hn nr_eI hs_nil)))))))))))))))))
     intro Q24 hN24 hR24 hE24
     refine Aw.block ?_
     obtain ⟨j25,hh,hk25⟩:=bind_some hh
     refine Aw.join (S:=(List Int) × Int × (List Int)) (fun s25=>sp 200 [(0,pp 0),(1,ii x_n),(4,pp 1),(5,pp 2),(7,pp 5),(8,ii s18.2.2.2.2.2.2.2.2.2.2.2.2.2.2.2.2.2.2.2.2),(9,pp 10),(10,ii s23.2.2.2)]) (fun s25=>[(0,some ⟨134,[bo (eI .u8) s25.1,ii s25.2.1]⟩),(1,some ⟨41,[.nil,.nil]⟩),(2,some ⟨41,[sw 3 s18.2.2.1,.sref 4 [] 0 (List.length s18.2.2.2.1) 17]⟩),(3,some (rI_3 s18.2.2.1)),(4,some (rO55 s18.2.2.2.1)),(5,some ⟨27,[sw 6 s18.2.2.2.2.1,ii s18.2.2.2.2.2.1,ii s18.2.2.2.2.2.2.1,ii s18.2.2.2.2.2.2.2.1,ii s18.2.2.2.2.2.2.2.2.1,bb s18.2.2.2.2.2.2.2.2.2.1,ii s18.2.2.2.2.2.2.2.2.2.2.1,ii s18.2.2.2.2.2.2.2.2.2.2.2.1,ii s18.2.2.2.2.2.2.2.2.2.2.2.2.1,bb s18.2.2.2.2.2.2.2.2.2.2.2.2.2.1,bb s18.2.2.2.2.2.2.2.2.2.2.2.2.2.2.1,bb s18.2.2.2.2.2.2.2.2.2.2.2.2.2.2.2.1,bb s18.2.2.2.2.2.2.2.2.2.2.2.2.2.2.2.2.1,sw 7 s18.2.2.2.2.2.2.2.2.2.2.2.2.2.2.2.2.2.1,sw 8 s18.2.2.2.2.2.2.2.2.2.2.2.2.2.2.2.2.2.2.1,sw 9 s18.2.2.2.2.2.2.2.2.2.2.2.2.2.2.2.2.2.2.2.1]⟩),(6,some (rI_3 s18.2.2.2.2.1)),(7,some (rI_3 s18.2.2.2.2.2.2.2.2.2.2.2.2.2.2.2.2.2.1)),(8,some (rI_3 s18.2.2.2.2.2.2.2.2.2.2.2.2.2.2.2.2.2.2.1)),(9,some (rI_3 s18.2.2.2.2.2.2.2.2.2.2.2.2.2.2.2.2.2.2.2.1)),(10,some ⟨27,(sw 11 v20.2.C.Regs::ru25 v20.2.C [sw 12 s25.2.2,sw 13 v20.2.In,sw 14 v20.2.Out])⟩),(11,some (rI_3 v20.2.C.Regs)),(12,some (rI_3 s25.2.2)),(13,some (rI_3 v20.2.In)),(14,some (rI_3 v20.2.Out))]) 15 (fun s25=>F_spec_l20Host_j25 s18 s23 s25=some j24) ?_ ?_
     · intro s25 hh
       let z134:=(73,sw 12 s25.2.2); let z16:=over s25.2.2 (Int.toNat (w64 (s23.2.2.2*(8:Int)))) (Int.toNat (w64 ((w64 (s23.2.2.2+(1:Int)))*(8:Int))) - Int.toNat (w64 (s23.2.2.2*(8:Int)))) z13
       unfold F_spec_l20Host_j25 at hh
       refine Aw.sreg [0,1,4,5,7,8,9,10,71] [0,1,2,3,4,5,6,7,8,9,10,11,12,13,14] ?_
       let q64:Root:=⟨134,[bo (eI .u8) s25.1,ii s25.2.1]⟩; let q65:Root:=⟨27,(sw 11 v20.2.C.Regs::ru25 v20.2.C [sw 12 s25.2.2,sw 13 v20.2.In,sw 14 v20.2.Out])⟩; let z135:=(10,some q65); let q66:Root:=(rI_3 s25.2.2); let z136:=(12,some q66)
       refine yj 5  (sp 200 [z21,z23,z32,z33,z36,z102,z38,z119,(63,.ptr 5 [] 13),(64,sw 7 s18.2.2.2.2.2.2.2.2.2.2.2.2.2.2.2.2.2.1),(65,ii (((List.length s18.2.2.2.2.2.2.2.2.2.2.2.2.2.2.2.2.2.1):Nat):Int)),(66,bb (decide ((0:Int)<(((List.length s18.2.2.2.2.2.2.2.2.2.2.2.2.2.2.2.2.2.1):Nat):Int)))),(67,bb (decide ((0:Int)<(((List.length s18.2.2.2.2.2.2.2.2.2.2.2.2.2.2.2.2.2.1):Nat):Int))))]) [(0,some q64),z24,z104,z105,z106,z107,z108,z109,z110,z111,z135,z115,z136,z114,z113] 15 ?_
       rcases cond_some hh with ⟨hb,hh⟩ | ⟨hb,hh⟩
       · refine yb 66 hb (yb 67 hb (yu 1 [(66,bb true),(67,bb true),(68,pp 0)] [(0,some q64),z24,z104,z105,z106,z107,z108,z109,z110,z111,z135,z115,z136,z114,z113] 15 ?_))
         obtain ⟨v26,hv26,hh⟩:=bind_some hh
         let z137:EH:=(0,some (rB134 v26.1)); let z138:=(71,bb (decide (v26.2=(0:Int))))
         refine yg (.call 49 [(.t 68),(.c (ii 3))]) (some 69) 67 true (cf (ii v26.2) [z137] 15 [0] (__spec_l20Rd__pick_fn hv26) [pp 0,ii 3] rz (hq q64 rz hs_nil) ren_i (hq (rB134 v26.1) (rens_same (nr_B_134 _)) hs_nil) ?_)
         refine yt (sp 200 [z21,z23,z32,z33,z36,z102,z38,z119,z138]) [z137,z24,z104,z105,z106,z107,z108,z109,z110,z111,z135,z115,z136,z114,z113] 15 ?_
         rcases cond_sf hh with ⟨hb,hh⟩ | ⟨hb,hh⟩
         · refine cF hb (Aw.skip (blk_m ?_))
           obtain rfl:=some_some hh
           exact hN24 (v26.1.b,v26.1.p,s25.2.2) _ _ _ hk24 (el [some 0,some 1,some 2,some 3,some 4,some 5,some 6,some 7,some 8,some 9,some 10,some 11,some 12,some 13,some 14] (rens_sp kr (rp 0 (ri (rp 1 (rp 2 (rp 5 (ri (rp 10 (ri rl_n))))))))) (hq (rB134 v26.1) rz (hq ⟨41,[.nil,.nil]⟩ rz (hq q30 rz (hn nr_eI (hn nr_O_55 (hq q33 rz (hn nr_eI (hn nr_eI (hn nr_eI (hn nr_eI (hq q65 rz (hn nr_eI (hn nr_eI (hn nr_eI (hn nr_eI hs_nil))))))))))))))))
         refine cT hb (Aw.oregt (qc (cs:=[]) (E':=(sp 200 [z21,z23,z32,z33,z36,z102,z38,z119,z138,z37,z134,z124,z125,z126,z127,z128])) (pre:=(List.take 7 (rg 131 19))) (L':=(List.drop 7 (rg 131 19))) kr (fun K=>by kernel_rfl) .nil ?_))
         obtain ⟨hg2560,hh⟩:=grd_some hh
         refine qs (.slc 1 (.t 73) (some (.t 75)) (some (.t 78))) (some 79) (yq_q rfl (op_slo (r:=12) (π:=[]) (o:=0) (k:=(List.length s25.2.2)) (sz:=1) (l:=(w64 (s23.2.2.2*(8:Int)))) (h:=(w64 ((w64 (s23.2.2.2+(1:Int)))*(8:Int)))) kr kr kr hg2560 ?_))
         refine qc (cs:=[]) (E':=(sp 200 [z21,z23,z32,z33,z36,z102,z38,z119,z138,z37,z134,z124,z125,z126,z127,z128,z129,(80,.ptr 5 [] 13),z103,(82,ii s23.2.2.2),z130])) (pre:=(List.take 4 (List.drop 8 (rg 131 19)))) (L':=(List.drop 12 (rg 131 19))) kr (fun K=>by kernel_rfl) .nil ?_
         obtain ⟨hg2559,hh⟩:=grd_some hh
         refine qs (.slc 1 (.t 81) (some (.t 83)) none) (some 84) (yq_q rfl (op_slo (r:=7) (π:=[]) (o:=0) (k:=(List.length s18.2.2.2.2.2.2.2.2.2.2.2.2.2.2.2.2.2.1)) (sz:=1) (l:=(w64 (s23.2.2.2*(8:Int)))) (h:=(((List.length s18.2.2.2.2.2.2.2.2.2.2.2.2.2.2.2.2.2.1):Nat):Int)) kr kr kr hg2559 ?_))
         refine qtt (cs:=[]) (E':=(sp 200 [z21,z23,z32,z33,z36,z102,z38,z119,z138,z37,z134,z124,z125,z126,z127,z128,z129,(80,.ptr 5 [] 13),z103,(82,ii s23.2.2.2),z130,z131])) (fun K=>by kernel_rfl) .nil ?_
         let q67:Root:=(rI_3 z16)
         refine ys (.cpy 1 (.t 79) (.t 84)) (some 85) (op_cpy (c:=(eI .i64)) (xs:=s25.2.2) (ys:=z13) (e:=3) (r:=12) (π:=[]) (o:=0+Int.toNat (w64 (s23.2.2.2*(8:Int)))*1) (k:=(Int.toNat (w64 ((w64 (s23.2.2.2+(1:Int)))*(8:Int))) - Int.toNat (w64 (s23.2.2.2*(8:Int))))) (i:=(Int.toNat (w64 (s23.2.2.2*(8:Int))))) (H':=[(12,some q67),z137,z24,z104,z105,z106,z107,z108,z109,z110,z111,z135,z115,z136,z114,z113]) len_eI (rpv kr (rp_own (c:=(eI .i64)) (xs:=s18.2.2.2.2.2.2.2.2.2.2.2.2.2.2.2.2.2.1) (e:=3) (r:=7) (π:=[]) (o:=0+Int.toNat (w64 (s23.2.2.2*(8:Int)))*1) (k:=(Int.toNat (((List.length s18.2.2.2.2.2.2.2.2.2.2.2.2.2.2.2.2.2.1):Nat):Int) - Int.toNat (w64 (s23.2.2.2*(8:Int))))) (i:=(Int.toNat (w64 (s23.2.2.2*(8:Int))))) len_eI no_eI kr ltn ltn)) kr kr ltn ltn kr ?_)
         refine ye (sp 200 [z21,z23,z32,z33,z36,z102,z38,z119,z138,z37,z134,z124,z125,z126,z127,z128,z129,(80,.ptr 5 [] 13),z103,(82,ii s23.2.2.2),z130,z131,(85,ii ((min (Int.toNat (w64 ((w64 (s23.2.2.2+(1:Int)))*(8:Int))) - Int.toNat (w64 (s23.2.2.2*(8:Int)))) (List.length z13):Nat):Int))]) [(12,some q67),z137,z24,z104,z105,z106,z107,z108,z109,z110,z111,z135,z115,z136,z114,z113] 15 (blk_m ?_)
         obtain rfl:=some_some hh
         exact hN24 (v26.1.b,v26.1.p,z16) _ _ _ hk24 (el [some 0,some 1,some 2,some 3,some 4,some 5,some 6,some 7,some 8,some 9,some 10,some 11,some 12,some 13,some 14] (rens_sp kr (rp 0 (ri (rp 1 (rp 2 (rp 5 (ri (rp 10 (ri rl_n))))))))) (hq (rB134 v26.1) rz (hq ⟨41,[.nil,.nil]⟩ rz (hq q30 rz (hn nr_eI (hn nr_O_55 (hq q33 rz (hn nr_eI (hn nr_eI (hn nr_eI (hn nr_eI (hq q65 rz (hn nr_eI (hn nr_eI (hn nr_eI (hn nr_eI hs_nil))))))))))))))))
       refine yb 66 hb (yb 67 hb (yt (sp 200 [z21,z23,z32,z33,z36,z102,z38,z119,(71,bb false)]) [(0,some q64),z24,z104,z105,z106,z107,z108,z109,z110,z111,z135,z115,z136,z114,z113] 15 (cF rfl (Aw.skip (blk_m ?_)))))
       obtain rfl:=some_some hh
       exact hN24 (s25.1,s25.2.1,s25.2.2) _ _ _ hk24 (el [some 0,some 1,some 2,some 3,some 4,some 5,some 6,some 7,some 8,some 9,some 10,some 11,some 12,some 13,some 14] (rens_sp kr (rp 0 (ri (rp 1 (rp 2 (rp 5 (ri (rp 10 (ri rl_n))))))))) (hq q64 rz (hq ⟨41,[.nil,.nil]⟩ rz (hq q30 rz (hn nr_eI (hn nr_O_55 (hq q33 rz (hn nr_eI (hn nr_eI (hn nr_eI (hn nr_eI (hq q65 rz (hn nr_eI (hn nr_eI (hn nr_eI (hn nr_eI hs_nil))))))))))))))))
     intro Q25 hN25 hR25 hE25
     refine Aw.sreg [0,1,4,5,7,8,9,10,55] [0,1,2,3,4,5,6,7,8,9,10,11,12,13,14] (yj 3  (sp 200 [z21,z23,z32,z33,z36,z102,z38,z119,z120,(49,ii s23.2.2.2),(50,bb (decide ((3:Int)<s23.2.2.2))),(51,bb (decide ((3:Int)<s23.2.2.2)))]) [(0,some q58),z24,z104,z105,z106,z107,z108,z109,z110,z111,z132,z115,z133,z114,z113] 15 ?_)
     rcases cond_sf hh with ⟨hb,hh⟩ | ⟨hb,hh⟩
     · refine yb 50 hb (yb 51 hb (yt (sp 200 [z21,z23,z32,z33,z36,z102,z38,z119,(55,bb false)]) [(0,some q58),z24,z104,z105,z106,z107,z108,z109,z110,z111,z132,z115,z133,z114,z113] 15 (cF rfl (Aw.skip ?_))))
       obtain rfl:=some_some hh
       exact hN25 (s23.1,s23.2.1,s23.2.2.1) _ _ _ hk25 (el [some 0,some 1,some 2,some 3,some 4,some 5,some 6,some 7,some 8,some 9,some 10,some 11,some 12,some 13,some 14] (rens_sp kr (rp 0 (ri (rp 1 (rp 2 (rp 5 (ri (rp 10 (ri rl_n))))))))) (hq q58 rz (hq ⟨41,[.nil,.nil]⟩ rz (hq q30 rz (hn nr_eI (hn nr_O_55 (hq q33 rz (hn nr_eI (hn nr_eI (hn nr_eI (hn nr_eI (hq q59 rz (hn nr_eI (hn nr_eI (hn nr_eI (hn nr_eI hs_nil))))))))))))))))
     refine yb 50 hb (yb 51 hb (yu 1 [(50,bb true),(51,bb true),(52,pp 0)] [(0,some q58),z24,z104,z105,z106,z107,z108,z109,z110,z111,z132,z115,z133,z114,z113] 15 ?_))
     obtain ⟨v27,hv27,hh⟩:=bind_some hh
     let z139:EH:=(0,some (rB134 v27.1)); let z140:=(55,bb (decide (v27.2=(0:Int))))
     refine yg (.call 49 [(.t 52),(.c (ii 2))]) (some 53) 51 true (cf (ii v27.2) [z139] 15 [0] (__spec_l20Rd__pick_fn hv27) [pp 0,ii 2] rz (hq q58 rz hs_nil) ren_i (hq (rB134 v27.1) (rens_same (nr_B_134 _)) hs_nil) ?_)
     refine yt (sp 200 [z21,z23,z32,z33,z36,z102,z38,z119,z140]) [z139,z24,z104,z105,z106,z107,z108,z109,z110,z111,z132,z115,z133,z114,z113] 15 ?_
     rcases cond_sf hh with ⟨hb,hh⟩ | ⟨hb,hh⟩
     · refine cF hb (Aw.skip ?_)
       obtain rfl:=some_some hh
       exact hN25 (v27.1.b,v27.1.p,s23.2.2.1) _ _ _ hk25 (el [some 0,some 1,some 2,some 3,some 4,some 5,some 6,some 7,some 8,some 9,some 10,some 11,some 12,some 13,some 14] (rens_sp kr (rp 0 (ri (rp 1 (rp 2 (rp 5 (ri (rp 10 (ri rl_n))))))))) (hq (rB134 v27.1) rz (hq ⟨41,[.nil,.nil]⟩ rz (hq q30 rz (hn nr_eI (hn nr_O_55 (hq q33 rz (hn nr_eI (hn nr_eI (hn nr_eI (hn nr_eI (hq q59 rz (hn nr_eI (hn nr_eI (hn nr_eI (hn nr_eI hs_nil))))))))))))))))
     refine cT hb (Aw.oregd [] kr (dj 4 (sp 200 [z21,z23,z32,z33,z36,z102,z38,z119,z140,z34,z121,(58,ii s23.2.2.2),z122]) [z139,z24,z104,z105,z106,z107,z108,z109,z110,z111,z132,z115,z133,z114,z113] 15 ?_))
     obtain ⟨hg2562,hh⟩:=grd_some hh
     refine ds (.slc 1 (.t 57) (some (.t 59)) none) (some 60) (ydo_q rfl kr (op_slo (r:=12) (π:=[]) (o:=0) (k:=(List.length s23.2.2.1)) (sz:=1) (l:=(w64 (s23.2.2.2*(8:Int)))) (h:=(((List.length s23.2.2.1):Nat):Int)) kr kr kr hg2562 ?_))
     refine ds (.mk 3 1 8 [(ii 0)] (.c (ii 8))) (some 61) (ydo_n rfl (op_mk (c:=(eI .i64)) (d:=(0:Int)) (k:=(8:Int)) kr dd kr ⟨⟨Agr.cons dd,Hld.un ?_⟩⟩))
     let q68:Root:=(rI_3 (List.replicate (Int.toNat (8:Int)) (0:Int)))
     refine dt (sp 200 [z21,z23,z32,z33,z36,z102,z38,z119,z140,z34,z121,(58,ii s23.2.2.2),z122,z123,z35]) [(15,some q68),z139,z24,z104,z105,z106,z107,z108,z109,z110,z111,z132,z115,z133,z114,z113] 16 ?_
     let q69:Root:=(rI_3 z9)
     refine ys (.cpy 1 (.t 60) (.t 61)) (some 62) (op_cpy (c:=(eI .i64)) (xs:=s23.2.2.1) (ys:=(List.replicate (Int.toNat (8:Int)) (0:Int))) (e:=3) (r:=12) (π:=[]) (o:=0+Int.toNat (w64 (s23.2.2.2*(8:Int)))*1) (k:=(Int.toNat (((List.length s23.2.2.1):Nat):Int) - Int.toNat (w64 (s23.2.2.2*(8:Int))))) (i:=(Int.toNat (w64 (s23.2.2.2*(8:Int))))) (H':=[(12,some q69),(15,some q68),z139,z24,z104,z105,z106,z107,z108,z109,z110,z111,z132,z115,z133,z114,z113]) len_eI (rpv kr (rp_whole (c:=(eI .i64)) (xs:=(List.replicate (Int.toNat (8:Int)) (0:Int))) (r:=15) (k:=(List.length (List.replicate (Int.toNat (8:Int)) (0:Int)))) (π:=[]) (e:=3) eqn len_eI no_eI kr)) kr kr ltn ltn kr ?_)
     refine ye (sp 200 [z21,z23,z32,z33,z36,z102,z38,z119,z140,z34,z121,(58,ii s23.2.2.2),z122,z123,z35,(62,ii ((min (Int.toNat (((List.length s23.2.2.1):Nat):Int) - Int.toNat (w64 (s23.2.2.2*(8:Int)))) (List.length (List.replicate (Int.toNat (8:Int)) (0:Int))):Nat):Int))]) [(12,some q69),(15,some q68),z139,z24,z104,z105,z106,z107,z108,z109,z110,z111,z132,z115,z133,z114,z113] 16 ?_
     obtain rfl:=some_some hh
     exact hN25 (v27.1.b,v27.1.p,z9) _ _ _ hk25 (el [some 0,some 1,some 2,some 3,some 4,some 5,some 6,some 7,some 8,some 9,some 10,some 11,some 12,some 13,some 14] (rens_sp kr (rp 0 (ri (rp 1 (rp 2 (rp 5 (ri (rp 10 (ri rl_n))))))))) (hq (rB134 v27.1) rz (hq ⟨41,[.nil,.nil]⟩ rz (hq q30 rz (hn nr_eI (hn nr_O_55 (hq q33 rz (hn nr_eI (hn nr_eI (hn nr_eI (hn nr_eI (hq q59 rz (hn nr_eI (hn nr_eI (hn nr_eI (hn nr_eI hs_nil))))))))))))))))
   refine cF hb (Aw.exit (then_x (hX18 _ _ _ _ _ (some_some hh) ?_)))
   intro hout
   rw [hout] at hk18
   refine blk_x ?_
   obtain rfl:=some_some hk18
   exact hN3 (s18.1,s18.2.1,s18.2.2.1,s18.2.2.2.1) _ _ _ hk3 (el [some 0,some 1,some 2,some 3,some 4] (rens_sp kr (rp 0 (ri (rp 1 (rp 2 rl_n))))) (hq q29 rz (hq ⟨41,[.nil,.nil]⟩ rz (hq q30 rz (hn nr_eI (hn nr_O_55 hs_nil))))))
 intro Q2 hN2 hR2 hE2
 refine sy [0,1,4,5,6] [0,1,2,3,4] (sp 200 [z21,z23,z32,(5,pp 4),(6,ii 0)]) [z22,z24,(2,some q2),(3,some q1),(4,some q3)] 5 (Aw.block ?_)
 obtain ⟨o28,hi28,hk28⟩:=bind_some hh
 refine Aw.iter (fun (s28:(List Int) × Int × (List Int) × Int)=>sp 200 [(0,pp 0),(1,ii x_n),(4,pp 1),(5,pp 2),(6,ii s28.2.2.2)]) (fun (s28:(List Int) × Int × (List Int) × Int)=>[(0,some ⟨134,[bo (eI .u8) s28.1,ii s28.2.1]⟩),(1,some ⟨41,[.nil,.nil]⟩),(2,some ⟨41,[sw 3 s28.2.2.1,.sref 4 [] 0 (List.length v1.Guests) 17]⟩),(3,some (rI_3 s28.2.2.1)),(4,some (rO55 v1.Guests))]) 5 hi28 (el [some 0,some 1,some 4,some 2,some 3] (rens_sp kr (rp 0 (ri (rp 1 (rp 4 (ri rl_n)))))) (hq (rB134 x_r) rz (hq ⟨41,[.nil,.nil]⟩ rz (hq q3 rz (hn nr_eI (hn nr_O_55 hs_nil)))))) ?_
 intro s28 u28 Q28 hh hN28 hX28 hR28
 let z141:=(23,bb (decide (s28.2.2.2<(((List.length s28.2.2.1):Nat):Int)))); let z142:=(30,sw 3 s28.2.2.1); let z143:=(31,ii s28.2.2.2); let z144:EV:=(34,.ptr 3 [] (0+(Int.toNat s28.2.2.2)*1)); let z145:=(6,ii s28.2.2.2)
 unfold F_spec_l20Host_l28 at hh
 refine Aw.seq (Aw.sreg [0,1,4,5,6,23] [0,1,2,3,4] ?_)
 let q70:Root:=⟨134,[bo (eI .u8) s28.1,ii s28.2.1]⟩; let q71:Root:=⟨41,[sw 3 s28.2.2.1,.sref 4 [] 0 (List.length v1.Guests) 17]⟩; let z146:=(2,some q71); let q72:Root:=(rI_3 s28.2.2.1); let z147:=(3,some q72)
 refine yt (sp 200 [z21,z23,z32,z33,z145,z141]) [(0,some q70),z24,z146,z147,z39] 5 ?_
 rcases cond_sf hh with ⟨hb,hh⟩ | ⟨hb,hh⟩
 · refine cF hb (Aw.exit (then_x (hX28 _ _ _ _ _ (some_some hh) ?_)))
   intro hout
   rw [hout] at hk28
   refine blk_x ?_
   obtain rfl:=some_some hk28
   exact hN2 (s28.1,s28.2.1,s28.2.2.1) _ _ _ hk2 (el [some 0,some 1,some 2,some 3,some 4] (rens_sp kr (rp 0 (ri (rp 1 (rp 2 rl_n))))) (hq q70 rz (hq ⟨41,[.nil,.nil]⟩ rz (hq q71 rz (hn nr_eI (hn nr_O_55 hs_nil))))))
 refine cT hb (Aw.xskip (fun _ _ _ hq=>then_m hq) ?_)
 obtain ⟨j29,hh,hk29⟩:=bind_some hh
 refine Aw.join (S:=(List Int) × Int × (List Int)) (fun s29=>sp 200 [(0,pp 0),(1,ii x_n),(4,pp 1),(5,pp 2),(6,ii s28.2.2.2)]) (fun s29=>[(0,some ⟨134,[bo (eI .u8) s29.1,ii s29.2.1]⟩),(1,some ⟨41,[.nil,.nil]⟩),(2,some ⟨41,[sw 3 s29.2.2,.sref 4 [] 0 (List.length v1.Guests) 17]⟩),(3,some (rI_3 s29.2.2)),(4,some (rO55 v1.Guests))]) 5 (fun s29=>F_spec_l20Host_j29 s28 s29=some u28) ?_ ?_
 · intro s29 hh
   unfold F_spec_l20Host_j29 at hh
   refine Aw.oreg ?_
   let q73:Root:=⟨134,[bo (eI .u8) s29.1,ii s29.2.1]⟩; let q74:Root:=⟨41,[sw 3 s29.2.2,.sref 4 [] 0 (List.length v1.Guests) 17]⟩; let q75:Root:=(rI_3 s29.2.2)
   exact ye (sp 200 [z21,z23,z32,z33,(6,ii (w64 (s28.2.2.2+(1:Int)))),(24,ii s28.2.2.2),(25,ii (w64 (s28.2.2.2+(1:Int))))]) [(0,some q73),z24,(2,some q74),(3,some q75),z39] 5 (hN28 (s29.1,s29.2.1,s29.2.2,(w64 (s28.2.2.2+(1:Int)))) _ _ _ (some_some hh) (el [some 0,some 1,some 2,some 3,some 4] (rens_sp kr (rp 0 (ri (rp 1 (rp 2 (ri rl_n)))))) (hq q73 rz (hq ⟨41,[.nil,.nil]⟩ rz (hq q74 rz (hn nr_eI (hn nr_O_55 hs_nil)))))))
 intro Q29 hN29 hR29 hE29
 refine Aw.block (Aw.sreg [0,1,4,5,6,28] [0,1,2,3,4] (yj 1  (sp 200 [z21,z23,z32,z33,z145,z141,(26,pp 0)]) [(0,some q70),z24,z146,z147,z39] 5 ?_))
 obtain ⟨v30,hv30,hh⟩:=bind_some hh
 let z148:EH:=(0,some (rB134 v30.1)); let z149:=(28,bb (decide (v30.2=(0:Int))))
 refine ys (.call 49 [(.t 26),(.c (ii 4))]) (some 27) (cf (ii v30.2) [z148] 5 [0] (__spec_l20Rd__pick_fn hv30) [pp 0,ii 4] rz (hq q70 rz hs_nil) ren_i (hq (rB134 v30.1) (rens_same (nr_B_134 _)) hs_nil) ?_)
 refine yt (sp 200 [z21,z23,z32,z33,z145,z149]) [z148,z24,z146,z147,z39] 5 ?_
 rcases cond_sf hh with ⟨hb,hh⟩ | ⟨hb,hh⟩
 · refine cF hb (Aw.skip (blk_m ?_))
   obtain rfl:=some_some hh
   exact hN29 (v30.1.b,v30.1.p,s28.2.2.1) _ _ _ hk29 (el [some 0,some 1,some 2,some 3,some 4] (rens_sp kr (rp 0 (ri (rp 1 (rp 2 (ri rl_n)))))) (hq (rB134 v30.1) rz (hq ⟨41,[.nil,.nil]⟩ rz (hq q71 rz (hn nr_eI (hn nr_O_55 hs_nil))))))
 refine cT hb (Aw.oregd [0] kr (dj 4 (sp 200 [z21,z23,z32,z33,z145,z149,(29,pp 2),z142,z143,(32,pp 0)]) [z148,z24,z146,z147,z39] 5 ?_))
 obtain ⟨v31,hv31,hh⟩:=bind_some hh
 let z150:EH:=(0,some (rB134 v31.1))
 refine ds (.call 116 [(.t 32)]) (some 33) (ydo_n rfl (cf (ii v31.2) [z150] 5 [0] (__spec_l20Rd__word_fn hv31) [pp 0] rz (hq (rB134 v30.1) (rens_same (nr_B_134 _)) hs_nil) ren_i (hq (rB134 v31.1) (rens_same (nr_B_134 _)) hs_nil) ⟨⟨agr_callf rfl rfl,Hld.un ?_⟩⟩))
 refine dt (sp 200 [z21,z23,z32,z33,z145,z149,(29,pp 2),z142,z143,(32,pp 0),(33,ii v31.2)]) [z150,z20,z148,z24,z146,z147,z39] 5 ?_
 obtain ⟨hg2580,hh⟩:=grd_some hh
 refine yjc 1 [(0:Int)≤s28.2.2.2∧s28.2.2.2<(((List.length s28.2.2.1):Nat):Int)] (sp 200 [z21,z23,z32,z33,z145,z149,(29,pp 2),z142,z143,(32,pp 0),(33,ii v31.2),z144]) [z150,z20,z148,z24,z146,z147,z39] 5 (.cons hg2580 .nil) ?_
 let q76:Root:=(rI_3 (List.set s28.2.2.1 (Int.toNat s28.2.2.2) v31.2))
 refine ys (.store 1 (.t 34) (.t 33)) none (op_store (c:=(eI .i64)) (xs:=s28.2.2.1) (e:=3) (r:=3) (π:=[]) (o:=0+(Int.toNat s28.2.2.2)*1) (i:=(Int.toNat s28.2.2.2)) (off:=0) (vs:=[ii v31.2]) (y:=v31.2) (H':=[(3,some q76),z150,z20,z148,z24,z146,z147,z39]) len_eI kr kr kr kr ltn ltn dd kr kr ?_)
 refine ye (sp 200 [z21,z23,z32,z33,z145,z149,(29,pp 2),z142,z143,(32,pp 0),(33,ii v31.2),z144]) [(3,some q76),z150,z20,z148,z24,z146,z147,z39] 5 (blk_m ?_)
 obtain rfl:=some_some hh
 exact hN29 (v31.1.b,v31.1.p,(List.set s28.2.2.1 (Int.toNat s28.2.2.2) v31.2)) _ _ _ hk29 (el [some 0,some 1,some 2,some 3,some 4] (rens_sp kr (rp 0 (ri (rp 1 (rp 2 (ri rl_n)))))) (hq (rB134 v31.1) rz (hq ⟨41,[.nil,.nil]⟩ rz (hq q71 rz (hn nr_eI (hn nr_O_55 hs_nil))))))
end Go.Proofs.Ytbanbjdcgdmkaaa
