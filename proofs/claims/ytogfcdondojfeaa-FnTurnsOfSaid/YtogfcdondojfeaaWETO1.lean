/- Plain functions of the program, and that it hands back what they say. Made by program. -/
import Derived.Test.YtogfcdondojfeaaWTD
import Derived.Test.YtogfcdondojfeaaProg
import Derived.Test.YtogfcdondojfeaaWH1
import Derived.Test.YtogfcdondojfeaaWTO1
namespace Go.Proofs.Ytogfcdondojfeaa
open Go.RowKit
set_option maxRecDepth 100000
set_option linter.all false
set_option maxHeartbeats 0
noncomputable def F_laws_FnExactTurnsOf (x_aTurns:List Int) (x_aG:Int):Option Bool :=
 cond (decide ((1048576:Int)<(((List.length x_aTurns):Nat):Int)))
  (some true)
  (Option.bind (F_laws_toIntS x_aTurns) fun v1 =>
  Option.bind (F_spec_TurnsOf v1 x_aG) fun v2 =>
  Option.bind (F_laws_toIntS x_aTurns) fun v3 =>
  Option.bind (F_impl_TurnsOf v3 x_aG) fun v4 =>
  cond (!decide (v4=v2))
   (some false)
   (Option.bind (F_laws_toIntS x_aTurns) fun v5 =>
   Option.bind (F_laws_eqIntS v3 v5) fun v6 =>
   cond (!v6)
    (some false)
    (some true)))
noncomputable def g8:Sg tG:=⟨[.row 3,.i .i64],.one .b,F_laws_FnExactTurnsOf⟩
theorem s8:Sok 8 g8:=sgx [(30,.r g30),(25,.r g25),(24,.r g24),(31,.r g31)] ⟨s30,s25,s24,s31,trivial⟩ .o kr kr kr
theorem laws_FnExactTurnsOf_fn {x_aTurns:List Int} {x_aG:Int} {R_:Bool} (hh:F_laws_FnExactTurnsOf x_aTurns x_aG=some R_):Fn Try.prog 8 [bo (eI .i64) x_aTurns,.int .i64 x_aG] (.bool R_):=kc (s8 x_aTurns x_aG R_ hh)
end Go.Proofs.Ytogfcdondojfeaa
