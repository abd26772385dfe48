/- Plain functions of the program, and that it hands back what they say. Made by program. -/
import Derived.Test.YtkjabgefacfpfaaWTD
import Derived.Test.YtkjabgefacfpfaaProg
import Derived.Test.YtkjabgefacfpfaaWD1
import Derived.Test.YtkjabgefacfpfaaWGF1
namespace Go.Proofs.Ytkjabgefacfpfaa
open Go.RowKit
set_option maxRecDepth 100000
set_option linter.all false
set_option maxHeartbeats 0
theorem aBk:LW 10 ⟨6,[.cell 2 true 2],.seq (.reg false (rg 10 0)) (.seq (.reg false (rg 10 1)) .ret)⟩:=kr
noncomputable def eO (x_code:List Int):Option DHost:=
 Option.bind (jU x_code) λv1=>
 Option.bind (jY v1) λv2=>
 some v2.2
theorem aBu{x_code:List Int}{R_:DHost}(hh:eO x_code=some R_):Fn Try.prog 10 [bo (eI .u8) x_code] (.agg [.own 3 1 (List.length R_.Words) (fl (eI .i64) R_.Words),.own 41 17 (List.length R_.Guests) (fl bV R_.Guests)]):=by unfold eO at hh;refine Fn.start aBk [0] (E:=sp 6 [(0,bo (eI .u8) x_code)]) kr (v:= .agg [sw 0 R_.Words,.sref 1 [] 0 (List.length R_.Guests) 17]) (Hr:=[(1,some (rO41 R_.Guests)),(0,some (rI_3 R_.Words))]) (k:=2) kr (sy [0,2] [0] (sp 6 [(0,bo (eI .u8) x_code),(2,pp 0)]) [(0,some ⟨26,[.nil,.nil]⟩)] 1 (Aw.sreg [2] [0,2,3] (yu 1 [(3,bo (eI .u8) x_code)] [(0,some ⟨26,[.nil,.nil]⟩)] 1 ?_)));obtain⟨v1,hv1,hh⟩:=bind_some hh;refine ys (.call 40 [.t 3]) (some 4) (cf (pp 1) [(1,some (rB109 v1))] 2 [] (aAh hv1) [bo (eI .u8) x_code] rz aW (aCz dd rfl) (hq (rB109 v1) (aM (lY _)) aW) ?_);obtain⟨v2,hv2,hh⟩:=bind_some hh;let q1:Root:=(rO41 v2.2.Guests);let q2:Root:=(rI_3 v2.2.Words);refine ys (.call 39 [.t 4]) (some 5) (cf (.agg [sw 2 v2.2.Words,.sref 3 [] 0 (List.length v2.2.Guests) 17]) [(3,some q1),(2,some q2),(1,some (rB109 v2.1))] 4 [1] (aAv hv2) [pp 1] rz (hq (rB109 v1) (aM (lY _)) aW) (iK rz) (hn cQ (hn bA (hq (rB109 v2.1) (aM (lY _)) aW))) ?_);refine yt (sp 6 [(2,pp 0)]) [(0,some ⟨26,[sw 2 v2.2.Words,.sref 3 [] 0 (List.length v2.2.Guests) 17]⟩),(2,some q2),(3,some q1)] 4 (Aw.ret ?_);rw[bM hh];exact rS (r':= .agg [sw 2 v2.2.Words,.sref 3 [] 0 (List.length v2.2.Guests) 17]) kr (Ent.list [some 2,some 3] rfl rfl (Nat.zero_le _) (mL (iK rz)) (hn cQ (hn bA aW)))
noncomputable def g10:Sg tG:=⟨[.row 5],.one (.st 2026),eO⟩
theorem s10:Sok 10 g10:=λx_code R_ hh=>kc (aBu (x_code:=x_code) hh)
theorem aBn:LW 20 ⟨6,[.cell 2 true 2],.seq (.reg false (rg 20 0)) (.seq (.reg false (rg 20 1)) .ret)⟩:=kr
noncomputable def eY (x_code:List Int):Option DHost:=
 Option.bind (jU x_code) λv1=>
 Option.bind (jY v1) λv2=>
 some v2.2
theorem aDl{x_code:List Int}{R_:DHost}(hh:eY x_code=some R_):Fn Try.prog 20 [bo (eI .u8) x_code] (.agg [.own 3 1 (List.length R_.Words) (fl (eI .i64) R_.Words),.own 41 17 (List.length R_.Guests) (fl bV R_.Guests)]):=by unfold eY at hh;refine Fn.start aBn [0] (E:=sp 6 [(0,bo (eI .u8) x_code)]) kr (v:= .agg [sw 0 R_.Words,.sref 1 [] 0 (List.length R_.Guests) 17]) (Hr:=[(1,some (rO41 R_.Guests)),(0,some (rI_3 R_.Words))]) (k:=2) kr (sy [0,2] [0] (sp 6 [(0,bo (eI .u8) x_code),(2,pp 0)]) [(0,some ⟨26,[.nil,.nil]⟩)] 1 (Aw.sreg [2] [0,2,3] (yu 1 [(3,bo (eI .u8) x_code)] [(0,some ⟨26,[.nil,.nil]⟩)] 1 ?_)));obtain⟨v1,hv1,hh⟩:=bind_some hh;refine ys (.call 40 [.t 3]) (some 4) (cf (pp 1) [(1,some (rB109 v1))] 2 [] (aAh hv1) [bo (eI .u8) x_code] rz aW (aCz dd rfl) (hq (rB109 v1) (aM (lY _)) aW) ?_);obtain⟨v2,hv2,hh⟩:=bind_some hh;let q1:Root:=(rO41 v2.2.Guests);let q2:Root:=(rI_3 v2.2.Words);refine ys (.call 39 [.t 4]) (some 5) (cf (.agg [sw 2 v2.2.Words,.sref 3 [] 0 (List.length v2.2.Guests) 17]) [(3,some q1),(2,some q2),(1,some (rB109 v2.1))] 4 [1] (aAv hv2) [pp 1] rz (hq (rB109 v1) (aM (lY _)) aW) (iK rz) (hn cQ (hn bA (hq (rB109 v2.1) (aM (lY _)) aW))) ?_);refine yt (sp 6 [(2,pp 0)]) [(0,some ⟨26,[sw 2 v2.2.Words,.sref 3 [] 0 (List.length v2.2.Guests) 17]⟩),(2,some q2),(3,some q1)] 4 (Aw.ret ?_);rw[bM hh];exact rS (r':= .agg [sw 2 v2.2.Words,.sref 3 [] 0 (List.length v2.2.Guests) 17]) kr (Ent.list [some 2,some 3] rfl rfl (Nat.zero_le _) (mL (iK rz)) (hn cQ (hn bA aW)))
noncomputable def g20:Sg tG:=⟨[.row 5],.one (.st 2026),eY⟩
theorem s20:Sok 20 g20:=λx_code R_ hh=>kc (aDl (x_code:=x_code) hh)
end Go.Proofs.Ytkjabgefacfpfaa
