/- Plain functions of the program, and that it hands back what they say. Made by program. -/
import Derived.Test.YtogfcdondojfeaaWTD
import Derived.Test.YtogfcdondojfeaaProg
namespace Go.Proofs.Ytogfcdondojfeaa
open Go.RowKit
set_option maxRecDepth 100000
set_option linter.all false
set_option maxHeartbeats 0
noncomputable def F_laws_sameInts_j1  (s1:Unit):Option Bool :=
 some true
noncomputable def F_laws_sameInts_l2 (x_a:List Int) (x_b:List Int) (s2:Int):Option (LO Int (JO Unit Bool)) :=
 cond (decide (s2<(((List.length x_a):Nat):Int)))
  (grd ((0:Int)≤s2∧s2<((List.length x_a:Nat):Int)) (grd ((0:Int)≤s2∧s2<((List.length x_b:Nat):Int)) (cond (!decide ((List.getD x_a (Int.toNat s2) default)=(List.getD x_b (Int.toNat s2) default)))
   (some (.ret (.out false)))
   (some (.next (w64 (s2+(1:Int))))))))
  (some (.ret (.go ())))
noncomputable def F_laws_sameInts (x_a:List Int) (x_b:List Int):Option Bool :=
 cond (!decide ((((List.length x_a):Nat):Int)=(((List.length x_b):Nat):Int)))
  (some false)
  (Option.bind (Option.bind (iter (F_laws_sameInts_l2 x_a x_b) (0:Int)) LO.val) fun j1 =>
   JO.run j1 (F_laws_sameInts_j1))
noncomputable def g28:Sg tG:=⟨[.row 3,.row 3],.one .b,F_laws_sameInts⟩
theorem s28:Sok 28 g28:=sgx [] trivial (.s .o (.s .o (.j ⟨[],[],[]⟩ (.s .o (.k (.l ⟨[0,1],[],[(.s 5,.i .i64)]⟩ .o))) .o))) kr kr kr
end Go.Proofs.Ytogfcdondojfeaa
