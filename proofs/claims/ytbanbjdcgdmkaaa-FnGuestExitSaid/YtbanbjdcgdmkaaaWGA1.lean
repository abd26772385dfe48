/- Plain functions of the program, and that it hands back what they say. Made by program. -/
import Derived.Test.YtbanbjdcgdmkaaaWT
import Derived.Test.YtbanbjdcgdmkaaaProg
import Derived.Test.YtbanbjdcgdmkaaaWD1
import Derived.Test.YtbanbjdcgdmkaaaWG1
import Derived.Test.YtbanbjdcgdmkaaaWGF1
namespace Go.Proofs.Ytbanbjdcgdmkaaa
open Go.RowKit
set_option maxRecDepth 100000
set_option linter.all false
set_option maxHeartbeats 0
theorem low_spec_DrawGuestExit:LW 22 ⟨14,[(.cell 2 true 2),(.tmp 3)],(.seq (.reg false (rg 22 0)) (.seq (.reg false (rg 22 1)) (.seq (.reg false (rg 22 2)) (.seq (.regd (rg 22 3) (rg 22 4)) .ret))))⟩:=kr
noncomputable def F_spec_DrawGuestExit (x_code:List Int):Option (DHost × Int) :=
 Option.bind (F_spec_l20Open x_code) fun v1 =>
 Option.bind (F_spec_l20Full v1) fun v2 =>
 Option.bind (F_spec_l20At v2.1 v2.2) fun v3 =>
 grd (List.length v3.2.1=(List.length v2.2.Words)) (grd (List.length v3.2.2.1=(List.length v2.2.Guests)) (some ((DHost.mk v3.2.1 v3.2.2.1),v3.2.2.2)))
theorem spec_DrawGuestExit_fn {x_code:List Int} {R_:DHost × Int} (hh:F_spec_DrawGuestExit x_code=some R_):Fn Try.prog 22 [bo (eI .u8) x_code] (.tup [.agg [.own 3 1 (List.length R_.1.Words) (fl (eI .i64) R_.1.Words),.own 55 17 (List.length R_.1.Guests) (fl O_55 R_.1.Guests)],.int .i64 R_.2]):=by
 let z1:EH:=(0,some ⟨41,[.nil,.nil]⟩); let z2:=(2,pp 0)
 unfold F_spec_DrawGuestExit at hh
 refine Fn.start low_spec_DrawGuestExit [0] (E:=sp 14 [(0,bo (eI .u8) x_code)]) kr (v:=.tup [.agg [sw 0 R_.1.Words,.sref 1 [] 0 (List.length R_.1.Guests) 17],ii R_.2]) (Hr:=[(1,some (rO55 R_.1.Guests)),(0,some (rI_3 R_.1.Words))]) (k:=2) kr (sy [0,2] [0] (sp 14 [(0,bo (eI .u8) x_code),z2]) [z1] 1 (Aw.sreg [2,4] [0,1] (yu 1 [(6,bo (eI .u8) x_code)] [z1] 1 ?_)))
 obtain ⟨v1,hv1,hh⟩:=bind_some hh
 let z3:EH:=(1,some (rB134 v1))
 refine ys (.call 47 [(.t 6)]) (some 7) (cf (pp 1) [z3] 2 [] (spec_l20Open_fn hv1) [bo (eI .u8) x_code] rz hs_nil (ren_p dd rfl) (hq (rB134 v1) (rens_same (nr_B_134 _)) hs_nil) ?_)
 refine yt (sp 14 [z2,(4,pp 1)]) [z1,z3] 2 (Aw.sreg [2,4,5] [0,1,2,3,4] (yu 1 [(8,pp 1)] [z1,z3] 2 ?_))
 obtain ⟨v2,hv2,hh⟩:=bind_some hh
 let z4:EH:=(1,some (rB134 v2.1)); let z5:EV:=(10,.agg [sw 2 v2.2.Words,.sref 3 [] 0 (List.length v2.2.Guests) 17]); let z6:EV:=(12,.agg [sw 2 v2.2.Words,.sref 3 [] 0 (List.length v2.2.Guests) 17]); let q1:Root:=(rO55 v2.2.Guests); let q2:Root:=(rI_3 v2.2.Words)
 refine ys (.call 74 [(.t 8)]) (some 9) (cf (.agg [sw 2 v2.2.Words,.sref 3 [] 0 (List.length v2.2.Guests) 17]) [(3,some q1),(2,some q2),z4] 4 [1] (spec_l20Full_fn hv2) [pp 1] rz (hq (rB134 v1) (rens_same (nr_B_134 _)) hs_nil) (ren_agg rz) (hn nr_O_55 (hn nr_eI (hq (rB134 v2.1) (rens_same (nr_B_134 _)) hs_nil))) ?_)
 let q3:Root:=⟨41,[sw 2 v2.2.Words,.sref 3 [] 0 (List.length v2.2.Guests) 17]⟩
 refine yt (sp 14 [z2,(4,pp 1),(5,pp 4)]) [z1,z4,(2,some q2),(3,some q1),(4,some q3)] 5 (Aw.sregd [2,3] [0,2,3] [1,2,3] kr (dj 3 (sp 14 [z2,(4,pp 1),(5,pp 4),z5,(11,pp 1),z6]) [z1,z4,(2,some q2),(3,some q1),(4,some q3)] 5 ?_))
 obtain ⟨v3,hv3,hh⟩:=bind_some hh
 let z7:EH:=(3,some (rO55 v3.2.2.1))
 obtain ⟨hg3,hh⟩:=grd_some hh
 obtain ⟨hg4,hh⟩:=grd_some hh
 let q4:Root:=(rI_3 v3.2.1)
 refine ds (.call 75 [(.t 11),(.t 12)]) (some 13) (ydo_n rfl (cf (ii v3.2.2.2) [(1,some (rB134 v3.1)),(2,some q4),z7] 5 [1,2,3] (spec_l20At_fn hv3) [pp 1,.agg [sw 2 v2.2.Words,.sref 3 [] 0 (List.length v2.2.Guests) 17]] rz (hn nr_O_55 (hn nr_eI (hq (rB134 v2.1) (rens_same (nr_B_134 _)) hs_nil))) ren_i (hq (rB134 v3.1) (rens_same (nr_B_134 _)) (hn nr_eI (hn nr_O_55 hs_nil))) ⟨⟨agr_callf rfl rfl,Hld.un ?_⟩⟩))
 refine dt (sp 14 [z2,(4,pp 1),(5,pp 4),z5,(11,pp 1),z6,(13,ii v3.2.2.2)]) [(1,some (rB134 v3.1)),(2,some q4),z7,(1,none),(2,none),(3,none),z1,z4,(2,some q2),(3,some q1),(4,some q3)] 5 (yt (sp 14 [z2,(3,ii v3.2.2.2)]) [(0,some q3),(2,some q4),z7] 5 (Aw.ret ?_))
 rw [some_some hh]
 exact gives (r':=.tup [.agg [sw 2 v2.2.Words,.sref 3 [] 0 (List.length v2.2.Guests) 17],ii v3.2.2.2]) kr (Ent.list [some 2,some 3] rfl rfl (Nat.zero_le _) (rens_1 (ren_tup rz)) (hn nr_O_55 (hn nr_eI hs_nil)))
end Go.Proofs.Ytbanbjdcgdmkaaa
