/- Plain functions of the program, and that it hands back what they say. Made by program. -/
import Derived.Test.YtogfcdondojfeaaWTD
import Derived.Test.YtogfcdondojfeaaProg
import Derived.Test.YtogfcdondojfeaaWD1
import Derived.Test.YtogfcdondojfeaaWDT1
namespace Go.Proofs.Ytogfcdondojfeaa
open Go.RowKit
set_option maxRecDepth 100000
set_option linter.all false
set_option maxHeartbeats 0
theorem low_spec_DrawTurnsOf:LW 23 ⟨11,[(.tmp 2),(.tmp 3)],(.seq (.reg false (rg 23 0)) (.seq (.reg false (rg 23 1)) (.seq (.reg false (rg 23 2)) .ret)))⟩:=kr
noncomputable def F_spec_DrawTurnsOf (x_code:List Int):Option ((List Int) × Int) :=
 Option.bind (F_spec_l20Open x_code) fun v1 =>
 Option.bind (F_spec_l20Turns v1 (20:Int)) fun v2 =>
 Option.bind (F___spec_l20Rd__pick v2.1 (3:Int)) fun v3 =>
 some (v2.2,v3.2)
theorem spec_DrawTurnsOf_fn {x_code:List Int} {R_:(List Int) × Int} (hh:F_spec_DrawTurnsOf x_code=some R_):Fn Try.prog 23 [bo (eI .u8) x_code] (.tup [.own 3 1 (List.length R_.1) (fl (eI .i64) R_.1),.int .i64 R_.2]):=by
 unfold F_spec_DrawTurnsOf at hh
 refine Fn.start low_spec_DrawTurnsOf [0] (E:=sp 11 [(0,bo (eI .u8) x_code)]) kr (v:=.tup [sw 0 R_.1,ii R_.2]) (Hr:=[(0,some (rI_3 R_.1))]) (k:=1) kr (sy [0] [] (sp 11 [(0,bo (eI .u8) x_code)]) [] 0 (Aw.sreg [4] [0] (yu 1 [(5,bo (eI .u8) x_code)] [] 0 ?_)))
 obtain ⟨v1,hv1,hh⟩:=bind_some hh
 let z1:EH:=(0,some (rB79 v1))
 refine ys (.call 34 [(.t 5)]) (some 6) (cf (pp 0) [z1] 1 [] (spec_l20Open_fn hv1) [bo (eI .u8) x_code] rz hs_nil (ren_p dd rfl) (hq (rB79 v1) (rens_same (nr_B_79 _)) hs_nil) ?_)
 refine yt (sp 11 [(4,pp 0)]) [z1] 1 (Aw.sreg [2,3] [1] (yu 1 [(7,pp 0)] [z1] 1 ?_))
 obtain ⟨v2,hv2,hh⟩:=bind_some hh
 let z2:EH:=(1,some (rI_3 v2.2))
 refine ys (.call 57 [(.t 7),(.c (ii 20))]) (some 8) (cf (sw 1 v2.2) [z2,(0,some (rB79 v2.1))] 2 [0] (spec_l20Turns_fn hv2) [pp 0,ii 20] rz (hq (rB79 v1) (rens_same (nr_B_79 _)) hs_nil) ren_sy (hn nr_eI (hq (rB79 v2.1) (rens_same (nr_B_79 _)) hs_nil)) ?_)
 refine yu 1 [(8,sw 1 v2.2),(9,pp 0)] [z2,(0,some (rB79 v2.1)),(0,none),z1] 2 ?_
 obtain ⟨v3,hv3,hh⟩:=bind_some hh
 refine ys (.call 48 [(.t 9),(.c (ii 3))]) (some 10) (cf (ii v3.2) [(0,some (rB79 v3.1))] 2 [0] (__spec_l20Rd__pick_fn hv3) [pp 0,ii 3] rz (hq (rB79 v2.1) (rens_same (nr_B_79 _)) hs_nil) ren_i (hq (rB79 v3.1) (rens_same (nr_B_79 _)) hs_nil) ?_)
 refine yt (sp 11 [(2,sw 1 v2.2),(3,ii v3.2)]) [z2] 2 (Aw.ret ?_)
 rw [some_some hh]
 exact gives (r':=.tup [sw 1 v2.2,ii v3.2]) kr (Ent.list [some 1] rfl rfl (Nat.zero_le _) (rens_1 (ren_tup rz)) (hn nr_eI hs_nil))
noncomputable def g23:Sg tG:=⟨[.row 5],.two (.row 3) (.i .i64),F_spec_DrawTurnsOf⟩
theorem s23:Sok 23 g23:=fun x_code R_ hh=>kc (spec_DrawTurnsOf_fn (x_code:=x_code) hh)
end Go.Proofs.Ytogfcdondojfeaa
