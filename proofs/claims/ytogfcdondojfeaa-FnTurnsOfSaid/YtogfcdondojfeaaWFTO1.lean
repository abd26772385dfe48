/- Plain functions of the program, and that it hands back what they say. Made by program. -/
import Derived.Test.YtogfcdondojfeaaWTD
import Derived.Test.YtogfcdondojfeaaProg
import Derived.Test.YtogfcdondojfeaaWGTO1
import Derived.Test.YtogfcdondojfeaaWTO1
namespace Go.Proofs.Ytogfcdondojfeaa
open Go.RowKit
set_option maxRecDepth 100000
set_option linter.all false
set_option maxHeartbeats 0
noncomputable def F_laws_FnTurnsOf (x_code:List Int):Option Bool :=
 cond (decide ((1048576:Int)<(((List.length x_code):Nat):Int)))
  (some true)
  (Option.bind (F_spec_DrawTurnsOf x_code) fun v1 =>
  Option.bind (F_impl_TurnsOf v1.1 v1.2) fun v2 =>
  grd ((0:Int)≤(w64 (Int.tdiv (((List.length v1.1):Nat):Int) (2:Int)))∧(w64 (Int.tdiv (((List.length v1.1):Nat):Int) (2:Int)))≤(((List.length v1.1):Nat):Int)∧(((List.length v1.1):Nat):Int)≤(((List.length v1.1):Nat):Int)) (grd (List.length (List.take (Int.toNat (((List.length v1.1):Nat):Int) - Int.toNat (w64 (Int.tdiv (((List.length v1.1):Nat):Int) (2:Int)))) (List.drop (Int.toNat (w64 (Int.tdiv (((List.length v1.1):Nat):Int) (2:Int)))) v1.1))*8≤2 ^ 47∧List.length (List.take (Int.toNat (((List.length v1.1):Nat):Int) - Int.toNat (w64 (Int.tdiv (((List.length v1.1):Nat):Int) (2:Int)))) (List.drop (Int.toNat (w64 (Int.tdiv (((List.length v1.1):Nat):Int) (2:Int)))) v1.1))≤2 ^ 47) (grd ((0:Int)≤(0:Int)∧(0:Int)≤(w64 (Int.tdiv (((List.length v1.1):Nat):Int) (2:Int)))∧(w64 (Int.tdiv (((List.length v1.1):Nat):Int) (2:Int)))≤(((List.length v1.1):Nat):Int)) (grd ((List.length (List.take (Int.toNat (((List.length v1.1):Nat):Int) - Int.toNat (w64 (Int.tdiv (((List.length v1.1):Nat):Int) (2:Int)))) (List.drop (Int.toNat (w64 (Int.tdiv (((List.length v1.1):Nat):Int) (2:Int)))) v1.1))+List.length (List.take (Int.toNat (w64 (Int.tdiv (((List.length v1.1):Nat):Int) (2:Int))) - Int.toNat (0:Int)) (List.drop 0 v1.1)))*8≤2 ^ 47∧List.length (List.take (Int.toNat (((List.length v1.1):Nat):Int) - Int.toNat (w64 (Int.tdiv (((List.length v1.1):Nat):Int) (2:Int)))) (List.drop (Int.toNat (w64 (Int.tdiv (((List.length v1.1):Nat):Int) (2:Int)))) v1.1))+List.length (List.take (Int.toNat (w64 (Int.tdiv (((List.length v1.1):Nat):Int) (2:Int))) - Int.toNat (0:Int)) (List.drop 0 v1.1))≤2 ^ 47) (Option.bind (F_spec_TurnsOf v1.1 v1.2) fun v3 =>
   cond (decide (v2=v3))
    (grd ((0:Int)≤(0:Int)∧(0:Int)≤(w64 (Int.tdiv (((List.length v1.1):Nat):Int) (2:Int)))∧(w64 (Int.tdiv (((List.length v1.1):Nat):Int) (2:Int)))≤(((List.length v1.1):Nat):Int)) (Option.bind (F_impl_TurnsOf (List.take (Int.toNat (w64 (Int.tdiv (((List.length v1.1):Nat):Int) (2:Int))) - Int.toNat (0:Int)) (List.drop 0 v1.1)) v1.2) fun v4 =>
     grd ((0:Int)≤(w64 (Int.tdiv (((List.length v1.1):Nat):Int) (2:Int)))∧(w64 (Int.tdiv (((List.length v1.1):Nat):Int) (2:Int)))≤(((List.length v1.1):Nat):Int)∧(((List.length v1.1):Nat):Int)≤(((List.length v1.1):Nat):Int)) (Option.bind (F_impl_TurnsOf (List.take (Int.toNat (((List.length v1.1):Nat):Int) - Int.toNat (w64 (Int.tdiv (((List.length v1.1):Nat):Int) (2:Int)))) (List.drop (Int.toNat (w64 (Int.tdiv (((List.length v1.1):Nat):Int) (2:Int)))) v1.1)) v1.2) fun v5 =>
      cond (decide (v2=(w64 (v4+v5))))
       (Option.bind (F_impl_TurnsOf ((List.take (Int.toNat (((List.length v1.1):Nat):Int) - Int.toNat (w64 (Int.tdiv (((List.length v1.1):Nat):Int) (2:Int)))) (List.drop (Int.toNat (w64 (Int.tdiv (((List.length v1.1):Nat):Int) (2:Int)))) v1.1)) ++ (List.take (Int.toNat (w64 (Int.tdiv (((List.length v1.1):Nat):Int) (2:Int))) - Int.toNat (0:Int)) (List.drop 0 v1.1))) v1.2) fun v6 =>
       cond (decide (v2=v6))
        (Option.bind (F_impl_TurnsOf ([v1.2]:List Int) v1.2) fun v7 =>
        some (decide (v7=(1:Int))))
        (some false))
       (some false))))
    (some false))))))
noncomputable def g6:Sg tG:=⟨[.row 5],.one .b,F_laws_FnTurnsOf⟩
theorem s6:Sok 6 g6:=sgx [(23,.r g23),(24,.r g24),(25,.r g25)] ⟨s23,s24,s25,trivial⟩ .o kr kr kr
theorem laws_FnTurnsOf_fn {x_code:List Int} {R_:Bool} (hh:F_laws_FnTurnsOf x_code=some R_):Fn Try.prog 6 [bo (eI .u8) x_code] (.bool R_):=kc (s6 x_code R_ hh)
end Go.Proofs.Ytogfcdondojfeaa
