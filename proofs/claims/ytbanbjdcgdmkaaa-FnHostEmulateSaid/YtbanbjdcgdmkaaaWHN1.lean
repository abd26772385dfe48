/- Plain functions of the program, and that it hands back what they say. Made by program. -/
import Derived.Test.YtbanbjdcgdmkaaaWT
import Derived.Test.YtbanbjdcgdmkaaaProg
namespace Go.Proofs.Ytbanbjdcgdmkaaa
open Go.RowKit
set_option maxRecDepth 100000
set_option linter.all false
set_option maxHeartbeats 0
theorem low_spec_HostNew:LW 160 ⟨6,[(.cell 2 true 2)],(.seq (.reg false (rg 160 0)) (.seq (.rega [(rg 160 1),(rg 160 2)]) .ret))⟩:=kr
noncomputable def F_spec_HostNew (x_none:Int):Option DHost :=
 some (DHost.mk (List.replicate (Int.toNat (160:Int)) (0:Int)) (List.replicate (Int.toNat (3:Int)) (DGuest.mk false (DCore.mk ([]:List Int) (0:Int) (0:Int) (0:Int) (0:Int) false (0:Int) (0:Int) (0:Int) false false false false) ([]:List DSlot) ([]:List Int) ([]:List Int))))
theorem spec_HostNew_fn {x_none:Int} {R_:DHost} (hh:F_spec_HostNew x_none=some R_):Fn Try.prog 160 [.int .i64 x_none] (.agg [.own 3 1 (List.length R_.Words) (fl (eI .i64) R_.Words),.own 55 17 (List.length R_.Guests) (fl O_55 R_.Guests)]):=by
 let z1:=DCore.mk ([]:List Int) (0:Int) (0:Int) (0:Int) (0:Int) false (0:Int) (0:Int) (0:Int) false false false false; let z2:=DGuest.mk false z1 ([]:List DSlot) ([]:List Int) ([]:List Int)
 unfold F_spec_HostNew at hh
 refine Fn.start low_spec_HostNew [] (E:=sp 6 []) kr (v:=.agg [sw 0 R_.Words,.sref 1 [] 0 (List.length R_.Guests) 17]) (Hr:=[(1,some (rO55 R_.Guests)),(0,some (rI_3 R_.Words))]) (k:=2) kr (sy [2] [0] (sp 6 [(2,pp 0)]) [(0,some ⟨41,[.nil,.nil]⟩)] 1 (Aw.srega [2] [0,1,2] (hall_c ?_ (hall_c ?_ hall_n))))
 · refine ys (.mk 3 1 8 [(ii 0)] (.c (ii 160))) (some 3) (op_mk (c:=(eI .i64)) (d:=(0:Int)) (k:=(160:Int)) kr dd kr ?_)
   refine ys (.mk 55 17 176 zc2 (.c (ii 3))) (some 4) (op_mkR (z:=(bb false :: .nil::zru25 [.nil,.nil,.nil])) (k:=(3:Int)) kr dd ?_)
   let q1:Root:=⟨41,[.sref 1 [] 0 (List.length (List.replicate (Int.toNat (160:Int)) (0:Int))) 1,.sref 2 [] 0 (Int.toNat (3:Int)) 17]⟩; let q2:Root:=(rI_3 (List.replicate (Int.toNat (160:Int)) (0:Int))); let q3:Root:=⟨55,(repeatCells (bb false :: .nil::zru25 [.nil,.nil,.nil]) (Int.toNat (3:Int)))⟩
   refine yt (sp 6 [(2,pp 0)]) [(0,some q1),(1,some q2),(2,some q3)] 3 (Aw.ent (Ent.foldM (c:=O_55) (k:=Int.toNat (3:Int)) (d:=z2) (R:=2) (e:=55) (us2:=sp 6 [(2,pp 0)]) (H2:=[(0,some ⟨41,[.sref 1 [] 0 (List.length (List.replicate (Int.toNat (160:Int)) (0:Int))) 1,.sref 3 [] 0 (List.length (List.replicate (Int.toNat (3:Int)) z2)) 17]⟩),(1,some q2)]) (L:=[none,some none,none,none,none,none,none,none,none,none,none,none,none,none,some none,some none,some none]) (ws:=(bb false :: .own 3 1 0 []::zru25 [.own 52 3 0 [],.own 3 1 0 [],.own 3 1 0 []])) dd kr kr (fcs_s (fcs_0 (fcs_s (fcs_s (fcs_s (fcs_s (fcs_s (fcs_s (fcs_s (fcs_s (fcs_s (fcs_s (fcs_s (fcs_s (fcs_0 (fcs_0 (fcs_0 fcs_n))))))))))))))))) rfl (rds_sp kr (rdl_c (u:=pp 0) kr (.same _) rdl_n)) (hd_c (t:=q1) rfl kr rfl (rds_c (.same _) (rds_c (.sref _ _ _ _ eqn) rds_n)) (hd_c (t:=q2) rfl kr rfl rds_same hd_n))) (Aw.ret ?_))
   rw [some_some hh]
   let q4:Root:=(rO55 (List.replicate (Int.toNat (3:Int)) z2))
   exact gives (r':=.agg [.sref 1 [] 0 (List.length (List.replicate (Int.toNat (160:Int)) (0:Int))) 1,.sref 3 [] 0 (List.length (List.replicate (Int.toNat (3:Int)) z2)) 17]) kr (Ent.list [some 1,some 3] rfl rfl (Nat.zero_le _) (rens_1 (ren_agg rz)) (hn nr_O_55 (hn nr_eI hs_nil)))
 refine ys (.mk 55 17 176 zc2 (.c (ii 3))) (some 4) (op_mkR (z:=(bb false :: .nil::zru25 [.nil,.nil,.nil])) (k:=(3:Int)) kr dd ?_)
 refine ys (.mk 3 1 8 [(ii 0)] (.c (ii 160))) (some 3) (op_mk (c:=(eI .i64)) (d:=(0:Int)) (k:=(160:Int)) kr dd kr ?_)
 let q5:Root:=⟨41,[.sref 2 [] 0 (List.length (List.replicate (Int.toNat (160:Int)) (0:Int))) 1,.sref 1 [] 0 (Int.toNat (3:Int)) 17]⟩; let q6:Root:=⟨55,(repeatCells (bb false :: .nil::zru25 [.nil,.nil,.nil]) (Int.toNat (3:Int)))⟩; let q7:Root:=(rI_3 (List.replicate (Int.toNat (160:Int)) (0:Int)))
 refine yt (sp 6 [(2,pp 0)]) [(0,some q5),(1,some q6),(2,some q7)] 3 (Aw.ent (Ent.foldM (c:=O_55) (k:=Int.toNat (3:Int)) (d:=z2) (R:=1) (e:=55) (us2:=sp 6 [(2,pp 0)]) (H2:=[(0,some ⟨41,[.sref 2 [] 0 (List.length (List.replicate (Int.toNat (160:Int)) (0:Int))) 1,.sref 3 [] 0 (List.length (List.replicate (Int.toNat (3:Int)) z2)) 17]⟩),(2,some q7)]) (L:=[none,some none,none,none,none,none,none,none,none,none,none,none,none,none,some none,some none,some none]) (ws:=(bb false :: .own 3 1 0 []::zru25 [.own 52 3 0 [],.own 3 1 0 [],.own 3 1 0 []])) dd kr kr (fcs_s (fcs_0 (fcs_s (fcs_s (fcs_s (fcs_s (fcs_s (fcs_s (fcs_s (fcs_s (fcs_s (fcs_s (fcs_s (fcs_s (fcs_0 (fcs_0 (fcs_0 fcs_n))))))))))))))))) rfl (rds_sp kr (rdl_c (u:=pp 0) kr (.same _) rdl_n)) (hd_c (t:=q5) rfl kr rfl (rds_c (.same _) (rds_c (.sref _ _ _ _ eqn) rds_n)) (hd_c (t:=q7) rfl kr rfl rds_same hd_n))) (Aw.ret ?_))
 rw [some_some hh]
 let q8:Root:=(rO55 (List.replicate (Int.toNat (3:Int)) z2))
 exact gives (r':=.agg [.sref 2 [] 0 (List.length (List.replicate (Int.toNat (160:Int)) (0:Int))) 1,.sref 3 [] 0 (List.length (List.replicate (Int.toNat (3:Int)) z2)) 17]) kr (Ent.list [some 2,some 3] rfl rfl (Nat.zero_le _) (rens_1 (ren_agg rz)) (hn nr_O_55 (hn nr_eI hs_nil)))
end Go.Proofs.Ytbanbjdcgdmkaaa
