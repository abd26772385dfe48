/- Plain functions of the program, and that it hands back what they say. Made by program. -/
import Derived.Test.YtlikfpmbcdlnjaaWT
import Derived.Test.YtlikfpmbcdlnjaaProg
import Derived.Test.YtlikfpmbcdlnjaaWD1
import Derived.Test.YtlikfpmbcdlnjaaWG1
import Derived.Test.YtlikfpmbcdlnjaaWGH1
namespace Go.Proofs.Ytlikfpmbcdlnjaa
open Go.RowKit
set_option maxRecDepth 100000
set_option linter.all false
set_option maxHeartbeats 0
def Lf17_r0:List LOper:=[oo 2 (.fresh 26 [.nil,.nil]),oo 3 (.fresh 30 zc1)]
def Lf17_r1:List LOper:=[om 5 0,oK 6 66 [5],om 4 6]
def Lf17_r2:List LOper:=[om 7 4,oo 8 (.call 67 [(.t 7),(.c (ii 15))]),om 9 4,oo 10 (.call 68 [(.t 9),(.c (ii 12))]),oS 2 2 8,oS 16 3 10]
def Lf17:LFun:=⟨11,[(.cell 2 true 2),(.cell 3 true 16)],(.seq (.reg false Lf17_r0) (.seq (.reg false Lf17_r1) (.seq (.reg false Lf17_r2) .ret)))⟩
theorem low_spec_DrawHostBoot:lowFun Go.Proofs.Try.prog 17=some Lf17:=by kernel_rfl
noncomputable def F_spec_DrawHostBoot (x_code:List Int):Option (DHost × DBare) :=
 Option.bind (F_spec_l20Open x_code) fun v1 =>
 Option.bind (F_spec_l20Host v1 (15:Int)) fun v2 =>
 Option.bind (F_spec_l20Bare v2.1 (12:Int)) fun v3 =>
 some (v2.2,v3.2)
theorem spec_DrawHostBoot_fn {x_code:List Int} {R_:DHost × DBare} (hh:F_spec_DrawHostBoot x_code=some R_):Fn Try.prog 17 [bo (eI .u8) x_code] (.tup [.agg [.own 3 1 (List.length R_.1.Words) (fl (eI .i64) R_.1.Words),.own 53 17 (List.length R_.1.Guests) (fl O_53 R_.1.Guests)],.agg (.own 3 1 (List.length R_.2.C.Regs) (fl (eI .i64) R_.2.C.Regs)::ru28 R_.2.C [.own 3 1 (List.length R_.2.Mem) (fl (eI .i64) R_.2.Mem),.own 3 1 (List.length R_.2.In) (fl (eI .i64) R_.2.In),.own 3 1 (List.length R_.2.Out) (fl (eI .i64) R_.2.Out)])]):=by
 let z1:EH:=(0,some ⟨26,[.nil,.nil]⟩)
 unfold F_spec_DrawHostBoot at hh
 refine Fn.start low_spec_DrawHostBoot [0] (E:=sp 11 [(0,bo (eI .u8) x_code)]) kr (v:=.tup [.agg [sw 0 R_.1.Words,.sref 1 [] 0 (List.length R_.1.Guests) 17],.agg (sw 2 R_.2.C.Regs::ru28 R_.2.C [sw 3 R_.2.Mem,sw 4 R_.2.In,sw 5 R_.2.Out])]) (Hr:=[(5,some ⟨3,(fl (eI .i64) R_.2.Out)⟩),(4,some ⟨3,(fl (eI .i64) R_.2.In)⟩),(3,some ⟨3,(fl (eI .i64) R_.2.Mem)⟩),(2,some ⟨3,(fl (eI .i64) R_.2.C.Regs)⟩),(1,some ⟨53,(fl O_53 R_.1.Guests)⟩),(0,some ⟨3,(fl (eI .i64) R_.1.Words)⟩)]) (k:=6) kr (Aw.sreg [0,2,3] [0,1] ?_)
 let q1:Root:=⟨30,(.nil::zru28 [.nil,.nil,.nil])⟩; let z2:=(1,some q1)
 refine yt (sp 11 [(0,bo (eI .u8) x_code),(2,pp 0),(3,pp 1)]) [z1,z2] 2 (Aw.sreg [2,3,4] [0,1,2] (yu 1 [(5,bo (eI .u8) x_code)] [z1,z2] 2 ?_))
 obtain ⟨v1,hv1,hh⟩:=bind_some hh
 let z3:EH:=(2,some ⟨135,(B_135 v1)⟩)
 refine ys (.call 66 [(.t 5)]) (some 6) (op_callf (v':=pp 2) (Hp':=[z3]) (n':=3) [] (spec_l20Open_fn hv1) (args':=[bo (eI .u8) x_code]) kr rfl rfl rfl rz rfl hs_nil (ren_p dd rfl) rfl (hq ⟨135,(B_135 v1)⟩ (rens_same (nr_B_135 _)) hs_nil) rfl ?_)
 refine yt (sp 11 [(2,pp 0),(3,pp 1),(4,pp 2)]) [z1,z2,z3] 3 (Aw.sreg [2,3] [0,1,3,4,5,6,7,8] (yu 1 [(7,pp 2)] [z1,z2,z3] 3 ?_))
 obtain ⟨v2,hv2,hh⟩:=bind_some hh
 let q2:Root:=⟨53,(fl O_53 v2.2.Guests)⟩; let q3:Root:=⟨3,(fl (eI .i64) v2.2.Words)⟩
 refine ys (.call 67 [(.t 7),(.c (ii 15))]) (some 8) (op_callf (v':=.agg [sw 3 v2.2.Words,.sref 4 [] 0 (List.length v2.2.Guests) 17]) (Hp':=[(4,some q2),(3,some q3),(2,some ⟨135,(B_135 v2.1)⟩)]) (n':=5) [2] (spec_l20Host_fn hv2) (args':=[pp 2,ii 15]) kr rfl rfl rfl rz rfl (hq ⟨135,(B_135 v1)⟩ (rens_same (nr_B_135 _)) hs_nil) (ren_agg rz) rfl (hn nr_O_53 (hn nr_eI (hq ⟨135,(B_135 v2.1)⟩ (rens_same (nr_B_135 _)) hs_nil))) rfl ?_)
 refine yu 1 [(8,.agg [sw 3 v2.2.Words,.sref 4 [] 0 (List.length v2.2.Guests) 17]),(9,pp 2)] [(4,some q2),(3,some q3),(2,some ⟨135,(B_135 v2.1)⟩),(2,none),z1,z2,z3] 5 ?_
 obtain ⟨v3,hv3,hh⟩:=bind_some hh
 let q4:Root:=⟨3,(fl (eI .i64) v3.2.Out)⟩; let q5:Root:=⟨3,(fl (eI .i64) v3.2.In)⟩; let q6:Root:=⟨3,(fl (eI .i64) v3.2.Mem)⟩; let q7:Root:=⟨3,(fl (eI .i64) v3.2.C.Regs)⟩
 refine ys (.call 68 [(.t 9),(.c (ii 12))]) (some 10) (op_callf (v':=.agg (sw 5 v3.2.C.Regs::ru28 v3.2.C [sw 6 v3.2.Mem,sw 7 v3.2.In,sw 8 v3.2.Out])) (Hp':=[(8,some q4),(7,some q5),(6,some q6),(5,some q7),(2,some ⟨135,(B_135 v3.1)⟩)]) (n':=9) [2] (spec_l20Bare_fn hv3) (args':=[pp 2,ii 12]) kr rfl rfl rfl rz rfl (hq ⟨135,(B_135 v2.1)⟩ (rens_same (nr_B_135 _)) hs_nil) (ren_agg rz) rfl (hn nr_eI (hn nr_eI (hn nr_eI (hn nr_eI (hq ⟨135,(B_135 v3.1)⟩ (rens_same (nr_B_135 _)) hs_nil))))) rfl ?_)
 refine yt (sp 11 [(2,pp 0),(3,pp 1)]) [(0,some ⟨26,[sw 3 v2.2.Words,.sref 4 [] 0 (List.length v2.2.Guests) 17]⟩),(1,some ⟨30,(sw 5 v3.2.C.Regs::ru28 v3.2.C [sw 6 v3.2.Mem,sw 7 v3.2.In,sw 8 v3.2.Out])⟩),(3,some q3),(4,some q2),(5,some q7),(6,some q6),(7,some q5),(8,some q4)] 9 (Aw.ret ?_)
 rw [some_some hh]
 exact gives (r':=.tup [.agg [sw 3 v2.2.Words,.sref 4 [] 0 (List.length v2.2.Guests) 17],.agg (sw 5 v3.2.C.Regs::ru28 v3.2.C [sw 6 v3.2.Mem,sw 7 v3.2.In,sw 8 v3.2.Out])]) kr (Ent.list [some 3,some 4,some 5,some 6,some 7,some 8] rfl rfl (Nat.zero_le _) (rens_1 (ren_tup rz)) (hn nr_eI (hn nr_eI (hn nr_eI (hn nr_eI (hn nr_O_53 (hn nr_eI hs_nil)))))))
end Go.Proofs.Ytlikfpmbcdlnjaa
