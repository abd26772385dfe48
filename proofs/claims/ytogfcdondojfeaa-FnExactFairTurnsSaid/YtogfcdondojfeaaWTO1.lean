/- Plain functions of the program, and that it hands back what they say. Made by program. -/
import Derived.Test.YtogfcdondojfeaaWTD
import Derived.Test.YtogfcdondojfeaaProg
namespace Go.Proofs.Ytogfcdondojfeaa
open Go.RowKit
set_option maxRecDepth 100000
set_option linter.all false
set_option maxHeartbeats 0
noncomputable def F_impl_TurnsOf_j1  (s1:Int):Option Int :=
 some s1
noncomputable def F_impl_TurnsOf_j3 (s2:Int × Int) (s3:Int):Option (LO (Int × Int) (JO Int Int)) :=
 some (.next (s3,(w64 (s2.2+(1:Int)))))
noncomputable def F_impl_TurnsOf_l2 (x_turns:List Int) (x_g:Int) (s2:Int × Int):Option (LO (Int × Int) (JO Int Int)) :=
 cond (decide (s2.2<(((List.length x_turns):Nat):Int)))
  (Option.bind (grd ((0:Int)≤s2.2∧s2.2<((List.length x_turns:Nat):Int)) (cond (decide ((List.getD x_turns (Int.toNat s2.2) default)=x_g))
   (some (.go (w64 (s2.1+(1:Int)))))
   (some (.go s2.1)))) fun j3 =>
   JO.run j3 (F_impl_TurnsOf_j3 s2))
  (some (.ret (.go s2.1)))
noncomputable def F_impl_TurnsOf (x_turns:List Int) (x_g:Int):Option Int :=
 Option.bind (Option.bind (iter (F_impl_TurnsOf_l2 x_turns x_g) ((0:Int),(0:Int))) LO.val) fun j1 =>
  JO.run j1 (F_impl_TurnsOf_j1)
noncomputable def g24:Sg tG:=⟨[.row 3,.i .i64],.one (.i .i64),F_impl_TurnsOf⟩
theorem s24:Sok 24 g24:=sgx [] trivial (.s .o (.s .o (.j ⟨[],[],[(.s 5,.i .i64)]⟩ (.s .o (.k (.l ⟨[1,8,9],[],[(.s 5,.i .i64),(.s 10,.i .i64)]⟩ (.s .o (.s .o (.j ⟨[1,8,9,10],[],[(.s 5,.i .i64)]⟩ .o .o)))))) .o))) kr kr kr
noncomputable def F_spec_TurnsOf_j1  (s1:Int):Option Int :=
 some s1
noncomputable def F_spec_TurnsOf_j3 (s2:Int × Int) (s3:Int):Option (LO (Int × Int) (JO Int Int)) :=
 some (.next (s3,(w64 (s2.2+(1:Int)))))
noncomputable def F_spec_TurnsOf_l2 (x_turns:List Int) (x_g:Int) (s2:Int × Int):Option (LO (Int × Int) (JO Int Int)) :=
 cond (decide (s2.2<(((List.length x_turns):Nat):Int)))
  (Option.bind (grd ((0:Int)≤s2.2∧s2.2<((List.length x_turns:Nat):Int)) (cond (decide ((List.getD x_turns (Int.toNat s2.2) default)=x_g))
   (some (.go (w64 (s2.1+(1:Int)))))
   (some (.go s2.1)))) fun j3 =>
   JO.run j3 (F_spec_TurnsOf_j3 s2))
  (some (.ret (.go s2.1)))
noncomputable def F_spec_TurnsOf (x_turns:List Int) (x_g:Int):Option Int :=
 Option.bind (Option.bind (iter (F_spec_TurnsOf_l2 x_turns x_g) ((0:Int),(0:Int))) LO.val) fun j1 =>
  JO.run j1 (F_spec_TurnsOf_j1)
noncomputable def g25:Sg tG:=⟨[.row 3,.i .i64],.one (.i .i64),F_spec_TurnsOf⟩
theorem s25:Sok 25 g25:=sgx [] trivial (.s .o (.s .o (.j ⟨[],[],[(.s 5,.i .i64)]⟩ (.s .o (.k (.l ⟨[0,1],[],[(.s 5,.i .i64),(.s 6,.i .i64)]⟩ (.s .o (.j ⟨[0,1,6],[],[(.s 5,.i .i64)]⟩ .o .o))))) .o))) kr kr kr
end Go.Proofs.Ytogfcdondojfeaa
