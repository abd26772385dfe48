/- Plain functions of the program, and that it hands back what they say. Made by program. -/
import Derived.Test.YtlikfpmbcdlnjaaWT
import Derived.Test.YtlikfpmbcdlnjaaProg
import Derived.Test.YtlikfpmbcdlnjaaWD1
import Derived.Test.YtlikfpmbcdlnjaaWGA1
import Derived.Test.YtlikfpmbcdlnjaaWHD1
import Derived.Test.YtlikfpmbcdlnjaaWHN1
import Derived.Test.YtlikfpmbcdlnjaaWHO1
namespace Go.Proofs.Ytlikfpmbcdlnjaa
open Go.RowKit
set_option maxRecDepth 100000
set_option linter.all false
set_option maxHeartbeats 0
def Lf13_r0 : List LOper := [oo 2 (.mv (.c (bb false)))]
def Lf13_r1 : List LOper := [om 8 0, oo 9 (.len (.t 8)), oo 10 (.bin .gtr (.t 9) (.c (ii 1048576)))]
def Lf13_r2 : List LOper := [oo 2 (.mv (.c (bb true)))]
def Lf13_r3 : List LOper := [om 11 0, oo 12 (.call 51 [(.t 11)]), oo 3 (.fresh 26 [.nil, .nil]), ⟨none, (.store 2 (.t 3) (.t 12)), none⟩]
def Lf13_r4 : List LOper := [oo 13 (.load true 2 (.t 3)), oo 14 (.call 23 [(.t 13)]), om 4 14]
def Lf13_r5 : List LOper := [om 15 4, oo 16 (.load true 2 (.t 3)), oo 17 (.call 52 [(.t 16)]), oo 18 (.binb true (.t 15) (.t 17))]
def Lf13_r6 : List LOper := [oo 2 (.mv (.c (bb false)))]
def Lf13_r7 : List LOper := [oo 5 (.mv (.c (ii 0)))]
def Lf13_r8 : List LOper := [om 19 5, oo 20 (.bin .lss (.t 19) (.c (ii 3))), om 21 20, ⟨(some 22), (.mv (.t 4)), (some (21, true))⟩, oo 23 (.pick (.t 21) (.t 22) (.c (bb false)))]
def Lf13_r9 : List LOper := [oo 27 (.load true 2 (.t 3)), om 28 5, oo 29 (.call 53 [(.t 27), (.t 28)]), om 26 29, oo 30 (.ext (.t 26) 0), oo 31 (.ext (.t 26) 1), oo 6 (.fresh 26 [.nil, .nil]), ⟨none, (.store 2 (.t 6) (.t 30)), none⟩, om 7 31]
def Lf13_r10 : List LOper := [om 32 7, om 33 32, ⟨(some 34), (.load true 2 (.t 6)), (some (33, true))⟩, ⟨(some 35), (.call 23 [(.t 34)]), (some (33, true))⟩, ⟨(some 36), (.un .not (.t 35)), (some (33, true))⟩, oo 37 (.pick (.t 33) (.t 36) (.c (bb false)))]
def Lf13_r11 : List LOper := [oo 2 (.mv (.c (bb false)))]
def Lf13_r12 : List LOper := [om 24 5, oo 25 (.bin .add (.t 24) (.c (ii 1))), om 5 25]
def Lf13_l13 : LCode := (.seq (.seq (.reg false Lf13_r8) (.cond (.t 23) .skip (.exit 0))) (.seq (.block 1 (.seq (.reg false Lf13_r9) (.seq (.reg false Lf13_r10) (.cond (.t 37) (.seq (.reg false Lf13_r11) .ret) .skip)))) (.reg false Lf13_r12)))
def Lf13_r14 : List LOper := [oo 38 (.call 54 [(.c (ii 0))]), oo 39 (.call 23 [(.t 38)]), om 40 39, ⟨(some 41), (.call 21 []), (some (40, true))⟩, oo 42 (.pick (.t 40) (.t 41) (.c (bb false))), om 2 42]
def Lf13 : LFun := ⟨43, [(.tmp 2)], (.seq (.reg false Lf13_r0) (.seq (.seq (.reg false Lf13_r1) (.cond (.t 10) (.seq (.reg false Lf13_r2) .ret) .skip)) (.seq (.reg false Lf13_r3) (.seq (.reg false Lf13_r4) (.seq (.seq (.reg false Lf13_r5) (.cond (.t 18) (.seq (.reg false Lf13_r6) .ret) .skip)) (.seq (.seq (.reg false Lf13_r7) (.block 0 (.loop Lf13_l13))) (.seq (.reg false Lf13_r14) .ret)))))))⟩
theorem low_laws_FnHostOk : lowFun Go.Proofs.Try.prog 13 = some Lf13 := by kernel_rfl
noncomputable def F_laws_FnHostOk_j4  (s4 : Unit) : Option Bool :=
 Option.bind (F_impl_HostNew (0 : Int)) fun v5 =>
 Option.bind (F_impl_HostOk v5) fun v6 =>
 cond v6
  (Option.bind (F_laws_alive ) fun v7 =>
  some v7)
  (some false)
noncomputable def F_laws_FnHostOk_j9 (s8 : Int) (s9 : Unit) : Option (LO Int (JO Unit Bool)) :=
 some (.next (w64 (s8 + (1 : Int))))
noncomputable def F_laws_FnHostOk_l8 (v1 : DHost) (v2 : Bool) (s8 : Int) : Option (LO Int (JO Unit Bool)) :=
 cond (decide (s8 < (3 : Int)))
  (cond v2
   (Option.bind (Option.bind (F_impl_HostDrop v1 s8) fun v10 =>
    cond v10.2
     (Option.bind (F_impl_HostOk v10.1) fun v11 =>
     cond (!v11)
      (some (.out (.ret (.out false))))
      (some (.go ())))
     (some (.go ()))) fun j9 =>
    JO.run j9 (F_laws_FnHostOk_j9 s8))
   (some (.ret (.go ()))))
  (some (.ret (.go ())))
noncomputable def F_laws_FnHostOk (x_code : List Int) : Option Bool :=
 cond (decide ((1048576 : Int) < (((List.length x_code) : Nat) : Int)))
  (some true)
  (Option.bind (F_spec_DrawHostOk x_code) fun v1 =>
  Option.bind (F_impl_HostOk v1) fun v2 =>
  Option.bind (F_spec_HostOk v1) fun v3 =>
  cond (!(v2 == v3))
   (some false)
   (Option.bind (Option.bind (iter (F_laws_FnHostOk_l8 v1 v2) (0 : Int)) LO.val) fun j4 =>
    JO.run j4 (F_laws_FnHostOk_j4)))
theorem laws_FnHostOk_fn {x_code : List Int} {R_ : Bool} (hh : F_laws_FnHostOk x_code = some R_) : Fn Try.prog 13 [bo (eI .u8) x_code] (.bool R_) := by
 let z1 : EV := (0, bo (eI .u8) x_code)
 let z2 : EV := (10, bb (decide ((1048576 : Int) < (((List.length x_code) : Nat) : Int))))
 let z3 : EV := (3, pp 0)
 unfold F_laws_FnHostOk at hh
 refine Fn.start low_laws_FnHostOk [0] (E := sp 43 [z1]) kr (v := bb R_) (Hr := []) (k := 0) kr (sy [0] [] (sp 43 [z1]) [] 0 (Aw.seq (sy [0, 10] [] (sp 43 [z1, z2]) [] 0 ?_)))
 rcases cond_some hh with ⟨hb, hh⟩ | ⟨hb, hh⟩
 · exact cT hb (sy [2] [] (sp 43 [(2, bb true)]) [] 0 (Aw.ret (then_r (gvbs hh))))
 refine cF hb (Aw.xskip (fun _ _ _ hq => then_m hq) (Aw.sreg [3] [0, 1, 2] (yj 1  (sp 43 [z1, z2, (11, bo (eI .u8) x_code)]) [] 0 ?_)))
 obtain ⟨v1, hv1, hh⟩ := bind_some hh
 let q1 : Root := ⟨53, (fl O_53 v1.Guests)⟩
 let z4 : EH := (1, some q1)
 let z5 : EH := (2, some q1)
 let q2 : Root := ⟨3, (fl (eI .i64) v1.Words)⟩
 let z6 : EH := (0, some q2)
 let z7 : EH := (1, some q2)
 refine ys (.call 51 [(.t 11)]) (some 12) (op_call (r := .agg [.own 3 1 (List.length v1.Words) (fl (eI .i64) v1.Words), .own 53 17 (List.length v1.Guests) (fl O_53 v1.Guests)]) (v := .agg [sw 0 v1.Words, .sref 1 [] 0 (List.length v1.Guests) 17]) (Hr := [z4, z6]) (n' := 2) (spec_DrawHostOk_fn hv1) (clz_v (vs := [bo (eI .u8) x_code]) kr (clz_c (clo_same (clean_bor (cleans_fl cl_eI))) clz_n)) (by simp only [AV.noRef, noRefs, Bool.and_self, noRefs_fl nr_eI, noRefs_fl nr_O_53]) (by simp only [AV.noBor, noBors, Bool.and_self, noBors_fl nb_eI, noBors_fl nb_O_53]) kr ?_)
 let q3 : Root := ⟨26, [sw 0 v1.Words, .sref 1 [] 0 (List.length v1.Guests) 17]⟩
 let z8 : EH := (2, some q3)
 refine yt (sp 43 [(3, pp 2)]) [z6, z4, z8] 3 (Aw.sreg [3, 4] [0, 1, 2] (yu 1 [(13, .agg [sw 0 v1.Words, .sref 1 [] 0 (List.length v1.Guests) 17])] [z6, z4, z8] 3 ?_))
 obtain ⟨v2, hv2, hh⟩ := bind_some hh
 let z9 : EV := (4, bb v2)
 refine ys (.call 23 [(.t 13)]) (some 14) (op_call (r := bb v2) (v := bb v2) (Hr := []) (n' := 3) (impl_HostOk_fn hv2) (clz_v (vs := [.agg [sw 0 v1.Words, .sref 1 [] 0 (List.length v1.Guests) 17]]) kr (clz_c (clo_agg (clos_c (clo_own (c := (eI .i64)) (xs := v1.Words) (e := 3) eqn len_eI no_eI cl_eI kr) (clos_c (clo_flr (B := B_53) (xs := v1.Guests) (e := 53) oc_O_53 len_O_53 eqn kr) clos_n))) clz_n)) rfl rfl kr ?_)
 refine yt (sp 43 [(3, pp 2), z9]) [z6, z4, z8] 3 (Aw.seq (Aw.sreg [3, 4, 18] [0, 1, 2] (yj 2  (sp 43 [(3, pp 2), z9, (15, bb v2), (16, .agg [sw 0 v1.Words, .sref 1 [] 0 (List.length v1.Guests) 17])]) [z6, z4, z8] 3 ?_)))
 obtain ⟨v3, hv3, hh⟩ := bind_some hh
 refine ys (.call 52 [(.t 16)]) (some 17) (op_call (r := bb v3) (v := bb v3) (Hr := []) (n' := 3) (spec_HostOk_fn hv3) (clz_v (vs := [.agg [sw 0 v1.Words, .sref 1 [] 0 (List.length v1.Guests) 17]]) kr (clz_c (clo_agg (clos_c (clo_own (c := (eI .i64)) (xs := v1.Words) (e := 3) eqn len_eI no_eI cl_eI kr) (clos_c (clo_flr (B := B_53) (xs := v1.Guests) (e := 53) oc_O_53 len_O_53 eqn kr) clos_n))) clz_n)) rfl rfl kr ?_)
 refine yt (sp 43 [(3, pp 2), z9, (18, bb (!(v2 == v3)))]) [z6, z4, z8] 3 ?_
 rcases cond_some hh with ⟨hb, hh⟩ | ⟨hb, hh⟩
 · exact cT hb (sy [2] [] (sp 43 [(2, bb false)]) [] 3 (Aw.ret (then_r (gvbs hh))))
 refine cF hb (Aw.xskip (fun _ _ _ hq => then_m hq) ?_)
 obtain ⟨j4, hh, hk4⟩ := bind_some hh
 refine Aw.join (S := Unit) (fun s4 => sp 43 []) (fun s4 => []) 0 (fun s4 => F_laws_FnHostOk_j4 s4 = some R_) ?_ ?_
 · intro s4 hh
   unfold F_laws_FnHostOk_j4 at hh
   refine Aw.sreg [2] [] ?_
   obtain ⟨v5, hv5, hh⟩ := bind_some hh
   let q4 : Root := ⟨53, (fl O_53 v5.Guests)⟩
   let q5 : Root := ⟨3, (fl (eI .i64) v5.Words)⟩
   refine ys (.call 54 [(.c (ii 0))]) (some 38) (op_call (r := .agg [.own 3 1 (List.length v5.Words) (fl (eI .i64) v5.Words), .own 53 17 (List.length v5.Guests) (fl O_53 v5.Guests)]) (v := .agg [sw 0 v5.Words, .sref 1 [] 0 (List.length v5.Guests) 17]) (Hr := [(1, some q4), (0, some q5)]) (n' := 2) (impl_HostNew_fn hv5) (clz_v (vs := [ii 0]) kr (cz1 clz_n)) (by simp only [AV.noRef, noRefs, Bool.and_self, noRefs_fl nr_eI, noRefs_fl nr_O_53]) (by simp only [AV.noBor, noBors, Bool.and_self, noBors_fl nb_eI, noBors_fl nb_O_53]) kr ?_)
   obtain ⟨v6, hv6, hh⟩ := bind_some hh
   refine ys (.call 23 [(.t 38)]) (some 39) (op_call (r := bb v6) (v := bb v6) (Hr := []) (n' := 2) (impl_HostOk_fn hv6) (clz_v (vs := [.agg [sw 0 v5.Words, .sref 1 [] 0 (List.length v5.Guests) 17]]) kr (clz_c (clo_agg (clos_c (clo_own (c := (eI .i64)) (xs := v5.Words) (e := 3) eqn len_eI no_eI cl_eI kr) (clos_c (clo_flr (B := B_53) (xs := v5.Guests) (e := 53) oc_O_53 len_O_53 eqn kr) clos_n))) clz_n)) rfl rfl kr ?_)
   refine yj 1  (sp 43 [(38, .agg [sw 0 v5.Words, .sref 1 [] 0 (List.length v5.Guests) 17]), (39, bb v6), (40, bb v6)]) [(1, some q4), (0, some q5)] 2 ?_
   rcases cond_some hh with ⟨hb, hh⟩ | ⟨hb, hh⟩
   · refine yb 39 hb (yb 40 hb ?_)
     obtain ⟨v7, hv7, hh⟩ := bind_some hh
     refine yg (.call 21 []) (some 41) 40 true (oc (laws_alive_fn hv7) ?_)
     exact yt (sp 43 [(2, bb v7)]) [] 2 (Aw.ret (gvbs hh))
   exact yb 39 hb (yb 40 hb (yt (sp 43 [(2, bb false)]) [] 2 (Aw.ret (gvbs hh))))
 intro Q4 hN4 hR4 hE4
 refine sy [3, 4, 5] [0, 1, 2] (sp 43 [(3, pp 2), z9, (5, ii 0)]) [z6, z4, z8] 3 (Aw.block ?_)
 obtain ⟨o8, hi8, hk8⟩ := bind_some hh
 refine Aw.iter (fun (s8 : Int) => sp 43 [(3, pp 0), (4, bb v2), (5, ii s8)]) (fun (s8 : Int) => [(0, some ⟨26, [sw 1 v1.Words, .sref 2 [] 0 (List.length v1.Guests) 17]⟩), (1, some ⟨3, (fl (eI .i64) v1.Words)⟩), (2, some ⟨53, (fl O_53 v1.Guests)⟩)]) 3 hi8 (el [some 2, some 0, some 1] (rens_sp kr (rp 2 (rb (ri rl_n)))) (hq q3 rz (hn nr_eI (hn nr_O_53 hs_nil)))) ?_
 intro s8 u8 Q8 hh hN8 hX8 hR8
 let z10 : EV := (5, ii s8)
 unfold F_laws_FnHostOk_l8 at hh
 refine Aw.seq (Aw.sreg [3, 4, 5, 23] [0, 1, 2] ?_)
 let q6 : Root := ⟨26, [sw 1 v1.Words, .sref 2 [] 0 (List.length v1.Guests) 17]⟩
 let z11 : EH := (0, some q6)
 refine yj 3  (sp 43 [z3, z9, z10, (19, ii s8), (20, bb (decide (s8 < (3 : Int)))), (21, bb (decide (s8 < (3 : Int))))]) [z11, z7, z5] 3 ?_
 rcases cond_some hh with ⟨hb, hh⟩ | ⟨hb, hh⟩
 · refine yb 20 hb (yb 21 hb (yt (sp 43 [z3, z9, z10, (23, bb v2)]) [z11, z7, z5] 3 ?_))
   rcases cond_some hh with ⟨hb, hh⟩ | ⟨hb, hh⟩
   · refine cT hb (Aw.xskip (fun _ _ _ hq => then_m hq) ?_)
     obtain ⟨j9, hh, hk9⟩ := bind_some hh
     refine Aw.join (S := Unit) (fun s9 => sp 43 [(3, pp 0), (4, bb v2), (5, ii s8)]) (fun s9 => [(0, some ⟨26, [sw 1 v1.Words, .sref 2 [] 0 (List.length v1.Guests) 17]⟩), (1, some ⟨3, (fl (eI .i64) v1.Words)⟩), (2, some ⟨53, (fl O_53 v1.Guests)⟩)]) 3 (fun s9 => F_laws_FnHostOk_j9 s8 s9 = some u8) ?_ ?_
     · intro s9 hh
       unfold F_laws_FnHostOk_j9 at hh
       exact Aw.oreg (ye (sp 43 [z3, z9, (5, ii (w64 (s8 + (1 : Int)))), (24, ii s8), (25, ii (w64 (s8 + (1 : Int))))]) [z11, z7, z5] 3 (hN8 (w64 (s8 + (1 : Int))) _ _ _ (some_some hh) (el [some 0, some 1, some 2] (rens_sp kr (rp 0 (rb (ri rl_n)))) (hq q6 rz (hn nr_eI (hn nr_O_53 hs_nil))))))
     intro Q9 hN9 hR9 hE9
     refine Aw.block (Aw.sreg [3, 4, 5, 6, 7] [0, 1, 2, 3, 4, 5] (yj 2  (sp 43 [z3, z9, z10, (23, bb v2), (27, .agg [sw 1 v1.Words, .sref 2 [] 0 (List.length v1.Guests) 17]), (28, ii s8)]) [z11, z7, z5] 3 ?_))
     obtain ⟨v10, hv10, hh⟩ := bind_some hh
     let q7 : Root := ⟨53, (fl O_53 v10.1.Guests)⟩
     let q8 : Root := ⟨3, (fl (eI .i64) v10.1.Words)⟩
     refine ys (.call 53 [(.t 27), (.t 28)]) (some 29) (op_call (r := .tup [.agg [.own 3 1 (List.length v10.1.Words) (fl (eI .i64) v10.1.Words), .own 53 17 (List.length v10.1.Guests) (fl O_53 v10.1.Guests)], bb v10.2]) (v := .tup [.agg [sw 3 v10.1.Words, .sref 4 [] 0 (List.length v10.1.Guests) 17], bb v10.2]) (Hr := [(4, some q7), (3, some q8)]) (n' := 5) (impl_HostDrop_fn hv10) (clz_v (vs := [.agg [sw 1 v1.Words, .sref 2 [] 0 (List.length v1.Guests) 17], ii s8]) kr (clz_c (clo_agg (clos_c (clo_own (c := (eI .i64)) (xs := v1.Words) (e := 3) eqn len_eI no_eI cl_eI kr) (clos_c (clo_flr (B := B_53) (xs := v1.Guests) (e := 53) oc_O_53 len_O_53 eqn kr) clos_n))) (cz1 clz_n))) (by simp only [AV.noRef, noRefs, Bool.and_self, noRefs_fl nr_eI, noRefs_fl nr_O_53]) (by simp only [AV.noBor, noBors, Bool.and_self, noBors_fl nb_eI, noBors_fl nb_O_53]) kr ?_)
     let q9 : Root := ⟨26, [sw 3 v10.1.Words, .sref 4 [] 0 (List.length v10.1.Guests) 17]⟩
     refine yt (sp 43 [z3, z9, z10, (6, pp 5), (7, bb v10.2)]) [z11, z7, z5, (3, some q8), (4, some q7), (5, some q9)] 6 (Aw.sreg [3, 4, 5, 37] [0, 1, 2] (yu 2 [(32, bb v10.2), (33, bb v10.2)] [z11, z7, z5, (3, some q8), (4, some q7), (5, some q9)] 6 ?_))
     rcases cond_some hh with ⟨hb, hh⟩ | ⟨hb, hh⟩
     · refine yb 7 hb (yb 32 hb (yb 33 hb (yu 1 [(7, bb true), (32, bb true), (33, bb true), (34, .agg [sw 3 v10.1.Words, .sref 4 [] 0 (List.length v10.1.Guests) 17])] [z11, z7, z5, (3, some q8), (4, some q7), (5, some q9)] 6 ?_)))
       obtain ⟨v11, hv11, hh⟩ := bind_some hh
       refine yg (.call 23 [(.t 34)]) (some 35) 33 true (op_call (r := bb v11) (v := bb v11) (Hr := []) (n' := 6) (impl_HostOk_fn hv11) (clz_v (vs := [.agg [sw 3 v10.1.Words, .sref 4 [] 0 (List.length v10.1.Guests) 17]]) kr (clz_c (clo_agg (clos_c (clo_own (c := (eI .i64)) (xs := v10.1.Words) (e := 3) eqn len_eI no_eI cl_eI kr) (clos_c (clo_flr (B := B_53) (xs := v10.1.Guests) (e := 53) oc_O_53 len_O_53 eqn kr) clos_n))) clz_n)) rfl rfl kr ?_)
       refine yt (sp 43 [z3, z9, z10, (37, bb (!v11))]) [z11, z7, z5] 6 ?_
       rcases cond_some hh with ⟨hb, hh⟩ | ⟨hb, hh⟩
       · refine cT hb (sy [2] [] (sp 43 [(2, bb false)]) [] 6 (Aw.ret (blk_r ?_)))
         obtain rfl := some_some hh
         refine hR9 _ _ _ ((hR8 _ _ _ _ (some_some hk9) ?_))
         intro hout
         rw [hout] at hk8
         refine blk_r ?_
         obtain rfl := some_some hk8
         refine hR4 _ _ _ ?_
         rw [some_some hk4]
         exact gvb
       refine cF hb (Aw.skip (blk_m ?_))
       obtain rfl := some_some hh
       exact hN9 () _ _ _ hk9 (el [some 0, some 1, some 2] (rens_sp kr (rp 0 (rb (ri rl_n)))) (hq q6 rz (hn nr_eI (hn nr_O_53 hs_nil))))
     refine yb 7 hb (yb 32 hb (yb 33 hb (yt (sp 43 [z3, z9, z10, (37, bb false)]) [z11, z7, z5] 6 (cF rfl (Aw.skip (blk_m ?_))))))
     obtain rfl := some_some hh
     exact hN9 () _ _ _ hk9 (el [some 0, some 1, some 2] (rens_sp kr (rp 0 (rb (ri rl_n)))) (hq q6 rz (hn nr_eI (hn nr_O_53 hs_nil))))
   refine cF hb (Aw.exit (then_x (hX8 _ _ _ _ _ (some_some hh) ?_)))
   intro hout
   rw [hout] at hk8
   refine blk_x ?_
   obtain rfl := some_some hk8
   exact hN4 () _ _ _ hk4 (el [] (rens_sp kr rl_n) hs_nil)
 refine yb 20 hb (yb 21 hb (yt (sp 43 [z3, z9, z10, (23, bb false)]) [z11, z7, z5] 3 (cF rfl (Aw.exit (then_x (hX8 _ _ _ _ _ (some_some hh) ?_))))))
 intro hout
 rw [hout] at hk8
 refine blk_x ?_
 obtain rfl := some_some hk8
 exact hN4 () _ _ _ hk4 (el [] (rens_sp kr rl_n) hs_nil)
end Go.Proofs.Ytlikfpmbcdlnjaa
