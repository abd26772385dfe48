/- Plain functions of the program, and that it hands back what they say. Made by program. -/
import Derived.Test.YtogfcdondojfeaaWTD
import Derived.Test.YtogfcdondojfeaaProg
import Derived.Test.YtogfcdondojfeaaWO1
namespace Go.Proofs.Ytogfcdondojfeaa
open Go.RowKit
set_option maxRecDepth 100000
set_option linter.all false
set_option maxHeartbeats 0
noncomputable def F_impl_weightsOk_j1  (s1:Unit):Option Bool :=
 some true
noncomputable def F_impl_weightsOk_l2 (x_weights:List Int) (s2:Int):Option (LO Int (JO Unit Bool)) :=
 cond (decide (s2<(((List.length x_weights):Nat):Int)))
  (grd ((0:Int)≤s2∧s2<((List.length x_weights:Nat):Int)) (cond (decide ((List.getD x_weights (Int.toNat s2) default)<(0:Int)))
   (some (.ret (.out false)))
   (cond (decide ((9:Int)<(List.getD x_weights (Int.toNat s2) default)))
    (some (.ret (.out false)))
    (some (.next (w64 (s2+(1:Int))))))))
  (some (.ret (.go ())))
noncomputable def F_impl_weightsOk (x_weights:List Int):Option Bool :=
 cond (decide ((3:Int)<(((List.length x_weights):Nat):Int)))
  (some false)
  (Option.bind (Option.bind (iter (F_impl_weightsOk_l2 x_weights) (0:Int)) LO.val) fun j1 =>
   JO.run j1 (F_impl_weightsOk_j1))
noncomputable def g58:Sg tG:=⟨[.row 3],.one .b,F_impl_weightsOk⟩
theorem s58:Sok 58 g58:=sgx [] trivial (.s .o (.s .o (.j ⟨[],[],[]⟩ (.s .o (.k (.l ⟨[8,9],[],[(.s 10,.i .i64)]⟩ .o))) .o))) kr kr kr
noncomputable def F_impl_nextTurn_j1  (s1:Int):Option Int :=
 some s1
noncomputable def F_impl_nextTurn_j3 (s2:Int × Int) (s3:Int):Option (LO (Int × Int) (JO Int Int)) :=
 some (.next (s3,(w64 (s2.2+(1:Int)))))
noncomputable def F_impl_nextTurn_l2 (x_weights:List Int) (x_had:List Int) (s2:Int × Int):Option (LO (Int × Int) (JO Int Int)) :=
 cond (decide (s2.2<(((List.length x_weights):Nat):Int)))
  (Option.bind (grd ((0:Int)≤s2.2∧s2.2<((List.length x_weights:Nat):Int)) (cond (decide ((List.getD x_weights (Int.toNat s2.2) default)=(0:Int)))
   (some (.go s2.1))
   (cond (decide (s2.1=(-1:Int)))
    (some (.go s2.2))
    (grd ((0:Int)≤s2.2∧s2.2<((List.length x_had:Nat):Int)) (grd ((0:Int)≤s2.1∧s2.1<((List.length x_weights:Nat):Int)) (grd ((0:Int)≤s2.1∧s2.1<((List.length x_had:Nat):Int)) (cond (decide ((w64 ((List.getD x_had (Int.toNat s2.2) default)*(List.getD x_weights (Int.toNat s2.1) default)))<(w64 ((List.getD x_had (Int.toNat s2.1) default)*(List.getD x_weights (Int.toNat s2.2) default)))))
     (some (.go s2.2))
     (some (.go s2.1))))))))) fun j3 =>
   JO.run j3 (F_impl_nextTurn_j3 s2))
  (some (.ret (.go s2.1)))
noncomputable def F_impl_nextTurn (x_weights:List Int) (x_had:List Int):Option Int :=
 Option.bind (Option.bind (iter (F_impl_nextTurn_l2 x_weights x_had) ((-1:Int),(0:Int))) LO.val) fun j1 =>
  JO.run j1 (F_impl_nextTurn_j1)
noncomputable def g59:Sg tG:=⟨[.row 3,.row 3],.one (.i .i64),F_impl_nextTurn⟩
theorem s59:Sok 59 g59:=sgx [] trivial (.s .o (.s .o (.j ⟨[],[],[(.s 5,.i .i64)]⟩ (.s .o (.k (.l ⟨[0,1,8,9],[],[(.s 5,.i .i64),(.s 10,.i .i64)]⟩ (.s .o (.s .o (.j ⟨[0,1,8,9,10],[],[(.s 5,.i .i64)]⟩ .o .o)))))) .o))) kr kr kr
noncomputable def F_impl_FairTurns_j2  (s2:(List Int)):Option (List Int) :=
 some s2
noncomputable def F_impl_FairTurns_l3 (x_weights:List Int) (x_many:Int) (s3:(List Int) × (List Int) × Int):Option (LO ((List Int) × (List Int) × Int) (JO (List Int) (List Int))) :=
 cond (decide (s3.2.2<x_many))
  (Option.bind (F_impl_nextTurn x_weights s3.2.1) fun v4 =>
  cond (decide (v4=(-1:Int)))
   (some (.ret (.out s3.1)))
   (grd ((List.length s3.1+List.length ([v4]:List Int))*8≤2 ^ 47∧List.length s3.1+List.length ([v4]:List Int)≤2 ^ 47) (grd ((0:Int)≤v4∧v4<(((List.length s3.2.1):Nat):Int)) (grd ((0:Int)≤v4∧v4<(((List.length s3.2.1):Nat):Int)) (some (.next ((s3.1 ++ ([v4]:List Int)),(List.set s3.2.1 (Int.toNat v4) (w64 ((List.getD s3.2.1 (Int.toNat v4) default)+(1:Int)))),(w64 (s3.2.2+(1:Int))))))))))
  (some (.ret (.go s3.1)))
noncomputable def F_impl_FairTurns (x_weights:List Int) (x_many:Int):Option (List Int) :=
 Option.bind (F_impl_weightsOk x_weights) fun v1 =>
 cond (!v1)
  (some ([]:List Int))
  (cond (decide (x_many<(0:Int)))
   (some ([]:List Int))
   (cond (decide ((200:Int)<x_many))
    (some ([]:List Int))
    (grd ((0:Int)≤(((List.length x_weights):Nat):Int)∧(((List.length x_weights):Nat):Int)*8≤2 ^ 47∧(((List.length x_weights):Nat):Int)≤2 ^ 47) (Option.bind (Option.bind (iter (F_impl_FairTurns_l3 x_weights x_many) (([]:List Int),(List.replicate (Int.toNat (((List.length x_weights):Nat):Int)) (0:Int)),(0:Int))) LO.val) fun j2 =>
     JO.run j2 (F_impl_FairTurns_j2)))))
noncomputable def g27:Sg tG:=⟨[.row 3,.i .i64],.one (.row 3),F_impl_FairTurns⟩
theorem s27:Sok 27 g27:=sgx [(58,.r g58),(59,.r g59)] ⟨s58,s59,trivial⟩ (.s .o (.s .o (.s .o (.s .o (.j ⟨[],[],[(.s 5,.ro 3)]⟩ (.s .o (.k (.l ⟨[0,1],[],[(.s 5,.ro 3),(.s 6,.ro 3),(.s 7,.i .i64)]⟩ .o))) .o))))) kr kr kr
theorem impl_FairTurns_fn {x_weights:List Int} {x_many:Int} {R_:(List Int)} (hh:F_impl_FairTurns x_weights x_many=some R_):Fn Try.prog 27 [bo (eI .i64) x_weights,.int .i64 x_many] (.own 3 1 (List.length R_) (fl (eI .i64) R_)):=kc (s27 x_weights x_many R_ hh)
noncomputable def F_spec_FairTurns_j3  (s3:(List Int)):Option (List Int) :=
 some s3
noncomputable def F_spec_FairTurns_j5 (s4:(List Int) × (List Int) × Int) (s5:(List Int) × (List Int)):Option (LO ((List Int) × (List Int) × Int) (JO (List Int) (List Int))) :=
 some (.next (s5.1,s5.2,(w64 (s4.2.2+(1:Int)))))
noncomputable def F_spec_FairTurns_j6 (s4:(List Int) × (List Int) × Int) (s6:Int):Option (JO ((List Int) × (List Int)) (LO ((List Int) × (List Int) × Int) (JO (List Int) (List Int)))) :=
 cond (decide (s6<(0:Int)))
  (some (.out (.ret (.out s4.1))))
  (grd ((0:Int)≤s6∧s6<(((List.length s4.2.1):Nat):Int)) (grd ((0:Int)≤s6∧s6<(((List.length s4.2.1):Nat):Int)) (grd ((List.length s4.1+List.length ([s6]:List Int))*8≤2 ^ 47∧List.length s4.1+List.length ([s6]:List Int)≤2 ^ 47) (some (.go ((s4.1 ++ ([s6]:List Int)),(List.set s4.2.1 (Int.toNat s6) (w64 ((List.getD s4.2.1 (Int.toNat s6) default)+(1:Int))))))))))
noncomputable def F_spec_FairTurns_j8 (s7:Int × Int) (s8:Int):Option (LO (Int × Int) (JO Int (JO ((List Int) × (List Int)) (LO ((List Int) × (List Int) × Int) (JO (List Int) (List Int)))))) :=
 some (.next (s8,(w64 (s7.2+(1:Int)))))
noncomputable def F_spec_FairTurns_l7 (x_weights:List Int) (s4:(List Int) × (List Int) × Int) (s7:Int × Int):Option (LO (Int × Int) (JO Int (JO ((List Int) × (List Int)) (LO ((List Int) × (List Int) × Int) (JO (List Int) (List Int)))))) :=
 cond (decide (s7.2<(((List.length x_weights):Nat):Int)))
  (Option.bind (grd ((0:Int)≤s7.2∧s7.2<((List.length x_weights:Nat):Int)) (cond (decide ((0:Int)<(List.getD x_weights (Int.toNat s7.2) default)))
   (cond (decide (s7.1<(0:Int)))
    (some (.go s7.2))
    (grd ((0:Int)≤s7.2∧s7.2<(((List.length s4.2.1):Nat):Int)) (grd ((0:Int)≤s7.1∧s7.1<((List.length x_weights:Nat):Int)) (grd ((0:Int)≤s7.1∧s7.1<(((List.length s4.2.1):Nat):Int)) (grd ((0:Int)≤s7.2∧s7.2<((List.length x_weights:Nat):Int)) (cond (decide ((w64 ((List.getD s4.2.1 (Int.toNat s7.2) default)*(List.getD x_weights (Int.toNat s7.1) default)))<(w64 ((List.getD s4.2.1 (Int.toNat s7.1) default)*(List.getD x_weights (Int.toNat s7.2) default)))))
     (some (.go s7.2))
     (some (.go s7.1))))))))
   (some (.go s7.1)))) fun j8 =>
   JO.run j8 (F_spec_FairTurns_j8 s7))
  (some (.ret (.go s7.1)))
noncomputable def F_spec_FairTurns_l4 (x_weights:List Int) (x_many:Int) (s4:(List Int) × (List Int) × Int):Option (LO ((List Int) × (List Int) × Int) (JO (List Int) (List Int))) :=
 cond (decide (s4.2.2<x_many))
  (Option.bind (Option.bind (Option.bind (iter (F_spec_FairTurns_l7 x_weights s4) ((-1:Int),(0:Int))) LO.val) fun j6 =>
   JO.run j6 (F_spec_FairTurns_j6 s4)) fun j5 =>
   JO.run j5 (F_spec_FairTurns_j5 s4))
  (some (.ret (.go s4.1)))
noncomputable def F_spec_FairTurns_j2 (x_weights:List Int) (x_many:Int) (s2:Unit):Option (List Int) :=
 grd ((0:Int)≤(((List.length x_weights):Nat):Int)∧(((List.length x_weights):Nat):Int)*8≤2 ^ 47∧(((List.length x_weights):Nat):Int)≤2 ^ 47) (Option.bind (Option.bind (iter (F_spec_FairTurns_l4 x_weights x_many) (([]:List Int),(List.replicate (Int.toNat (((List.length x_weights):Nat):Int)) (0:Int)),(0:Int))) LO.val) fun j3 =>
  JO.run j3 (F_spec_FairTurns_j3))
noncomputable def F_spec_FairTurns_l9 (x_weights:List Int) (s9:Int):Option (LO Int (JO Unit (List Int))) :=
 cond (decide (s9<(((List.length x_weights):Nat):Int)))
  (grd ((0:Int)≤s9∧s9<((List.length x_weights:Nat):Int)) (Option.bind (F_spec_l1In (List.getD x_weights (Int.toNat s9) default) (0:Int) (9:Int)) fun v10 =>
   cond (!v10)
    (some (.ret (.out ([]:List Int))))
    (some (.next (w64 (s9+(1:Int)))))))
  (some (.ret (.go ())))
noncomputable def F_spec_FairTurns (x_weights:List Int) (x_many:Int):Option (List Int) :=
 cond (decide ((3:Int)<(((List.length x_weights):Nat):Int)))
  (some ([]:List Int))
  (Option.bind (F_spec_l1In x_many (0:Int) (200:Int)) fun v1 =>
  cond (!v1)
   (some ([]:List Int))
   (Option.bind (Option.bind (iter (F_spec_FairTurns_l9 x_weights) (0:Int)) LO.val) fun j2 =>
    JO.run j2 (F_spec_FairTurns_j2 x_weights x_many)))
noncomputable def g29:Sg tG:=⟨[.row 3,.i .i64],.one (.row 3),F_spec_FairTurns⟩
theorem s29:Sok 29 g29:=sgx [(41,.r g41)] ⟨s41,trivial⟩ (.s .o (.s .o (.s .o (.j ⟨[0,1,5],[],[]⟩ (.s .o (.k (.l ⟨[0,1,5],[],[(.s 6,.i .i64)]⟩ .o))) (.s .o (.j ⟨[],[],[(.s 5,.ro 3)]⟩ (.s .o (.k (.l ⟨[0,1],[],[(.s 5,.ro 3),(.s 7,.ro 3),(.s 8,.i .i64)]⟩ (.s .o (.j ⟨[0,1,8],[],[(.s 5,.ro 3),(.s 7,.ro 3)]⟩ (.k (.s .o (.j ⟨[0,1,5,7,8],[],[(.s 9,.i .i64)]⟩ (.s .o (.k (.l ⟨[0,1,5,7,8],[],[(.s 9,.i .i64),(.s 10,.i .i64)]⟩ (.s .o (.j ⟨[0,1,5,7,8,10],[],[(.s 9,.i .i64)]⟩ .o .o))))) .o))) .o))))) .o)))))) kr kr kr
theorem spec_FairTurns_fn {x_weights:List Int} {x_many:Int} {R_:(List Int)} (hh:F_spec_FairTurns x_weights x_many=some R_):Fn Try.prog 29 [bo (eI .i64) x_weights,.int .i64 x_many] (.own 3 1 (List.length R_) (fl (eI .i64) R_)):=kc (s29 x_weights x_many R_ hh)
end Go.Proofs.Ytogfcdondojfeaa
