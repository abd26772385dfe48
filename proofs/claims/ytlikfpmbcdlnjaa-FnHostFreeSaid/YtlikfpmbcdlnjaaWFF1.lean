/- Plain functions of the program, and that it hands back what they say. Made by program. -/
import Derived.Test.YtlikfpmbcdlnjaaWT
import Derived.Test.YtlikfpmbcdlnjaaProg
import Derived.Test.YtlikfpmbcdlnjaaWD1
import Derived.Test.YtlikfpmbcdlnjaaWGA1
import Derived.Test.YtlikfpmbcdlnjaaWHD1
import Derived.Test.YtlikfpmbcdlnjaaWHF1
import Derived.Test.YtlikfpmbcdlnjaaWHO1
import Derived.Test.YtlikfpmbcdlnjaaWI1
namespace Go.Proofs.Ytlikfpmbcdlnjaa
open Go.RowKit
set_option maxRecDepth 100000
set_option linter.all false
set_option maxHeartbeats 0
def Lf63_r0 : List LOper := [oo 4 (.mv (.c (bb false)))]
def Lf63_r1 : List LOper := [oo 5 (.mv (.c (ii 0)))]
def Lf63_r2 : List LOper := [om 6 5, om 7 0, oo 8 (.len (.t 7)), oo 9 (.bin .lss (.t 6) (.t 8))]
def Lf63_r3 : List LOper := [om 12 0, om 13 5, oo 14 (.iadr 1 (.t 12) (.t 13)), oo 15 (.load false 1 (.t 14)), om 16 1, oo 17 (.bin .eql (.t 15) (.t 16))]
def Lf63_r4 : List LOper := [oo 4 (.mv (.c (bb true)))]
def Lf63_r5 : List LOper := [om 10 5, oo 11 (.bin .add (.t 10) (.c (ii 1))), om 5 11]
def Lf63_l6 : LCode := (.seq (.seq (.reg false Lf63_r2) (.cond (.t 9) .skip (.exit 0))) (.seq (.block 1 (.seq (.reg false Lf63_r3) (.cond (.t 17) (.seq (.reg false Lf63_r4) .ret) .skip))) (.reg false Lf63_r5)))
def Lf63_r7 : List LOper := [oo 4 (.mv (.c (bb false)))]
def Lf63 : LFun := ⟨18, [(.tmp 4)], (.seq (.reg false Lf63_r0) (.seq (.seq (.reg false Lf63_r1) (.block 0 (.loop Lf63_l6))) (.seq (.reg false Lf63_r7) .ret)))⟩
theorem low_laws_hasInt : lowFun Go.Proofs.Try.prog 63 = some Lf63 := by kernel_rfl
noncomputable def F_laws_hasInt_j1  (s1 : Unit) : Option Bool :=
 some false
noncomputable def F_laws_hasInt_l2 (x_list : List Int) (x_n : Int) (s2 : Int) : Option (LO Int (JO Unit Bool)) :=
 cond (decide (s2 < (((List.length x_list) : Nat) : Int)))
  (grd ((0 : Int) ≤ s2 ∧ s2 < ((List.length x_list : Nat) : Int)) (cond (decide ((List.getD x_list (Int.toNat s2) default) = x_n))
   (some (.ret (.out true)))
   (some (.next (w64 (s2 + (1 : Int)))))))
  (some (.ret (.go ())))
noncomputable def F_laws_hasInt (x_list : List Int) (x_n : Int) : Option Bool :=
 Option.bind (Option.bind (iter (F_laws_hasInt_l2 x_list x_n) (0 : Int)) LO.val) fun j1 =>
  JO.run j1 (F_laws_hasInt_j1)
theorem laws_hasInt_fn {x_list : List Int} {x_n : Int} {R_ : Bool} (hh : F_laws_hasInt x_list x_n = some R_) : Fn Try.prog 63 [bo (eI .i64) x_list, .int .i64 x_n] (.bool R_) := by
 let z2 : EV := (0, bo (eI .i64) x_list)
 let z3 : EV := (1, ii x_n)
 unfold F_laws_hasInt at hh
 refine Fn.start low_laws_hasInt [0, 1] (E := sp 18 [z2, z3]) kr (v := bb R_) (Hr := []) (k := 0) kr (sy [0, 1] [] (sp 18 [z2, z3]) [] 0 ?_)
 obtain ⟨j1, hh, hk1⟩ := bind_some hh
 refine Aw.join (S := Unit) (fun s1 => sp 18 []) (fun s1 => []) 0 (fun s1 => F_laws_hasInt_j1 s1 = some R_) ?_ ?_
 · intro s1 hh
   unfold F_laws_hasInt_j1 at hh
   exact sy [4] [] (sp 18 [(4, bb false)]) [] 0 (Aw.ret (gvbs hh))
 intro Q1 hN1 hR1 hE1
 refine sy [0, 1, 5] [] (sp 18 [z2, z3, (5, ii 0)]) [] 0 (Aw.block ?_)
 obtain ⟨o2, hi2, hk2⟩ := bind_some hh
 refine Aw.iter (fun (s2 : Int) => sp 18 [(0, bo (eI .i64) x_list), (1, ii x_n), (5, ii s2)]) (fun (s2 : Int) => []) 0 hi2 (el [] (rens_sp kr (ro nr_eI (ri (ri rl_n)))) hs_nil) ?_
 intro s2 u2 Q2 hh hN2 hX2 hR2
 let z4 : EV := (9, bb (decide (s2 < (((List.length x_list) : Nat) : Int))))
 let z1 := List.getD x_list (Int.toNat s2) default
 unfold F_laws_hasInt_l2 at hh
 refine Aw.seq (sy [0, 1, 5, 9] [] (sp 18 [z2, z3, (5, ii s2), z4]) [] 0 ?_)
 rcases cond_some hh with ⟨hb, hh⟩ | ⟨hb, hh⟩
 · refine cT hb (Aw.xskip (fun _ _ _ hq => then_m hq) (Aw.seq (Aw.block (Aw.sreg [0, 1, 5, 17] [] (yj 2  (sp 18 [z2, z3, (5, ii s2), z4, (12, bo (eI .i64) x_list), (13, ii s2)]) [] 0 ?_)))))
   obtain ⟨hg24, hh⟩ := grd_some hh
   refine ys (.iadr 1 (.t 12) (.t 13)) (some 14) (op_iadr (kd := .i64) (c := (eI .i64)) (xs := x_list) len_eI dd kr kr hg24 ?_)
   refine ys (.load false 1 (.t 14)) (some 15) (op_loadb (c := (eI .i64)) (xs := x_list) (o := Int.toNat s2 * 1) (i := (Int.toNat s2)) (off := 0) (v := ii z1) len_eI kr ltn ltn dd kr ?_)
   refine yt (sp 18 [z2, z3, (5, ii s2), (17, bb (decide (z1 = x_n)))]) [] 0 ?_
   rcases cond_some hh with ⟨hb, hh⟩ | ⟨hb, hh⟩
   · refine cT hb (sy [4] [] (sp 18 [(4, bb true)]) [] 0 (Aw.ret (blk_r (then_r ?_))))
     refine hR2 _ _ _ _ (some_some hh) ?_
     intro hout
     rw [hout] at hk2
     refine blk_r ?_
     obtain rfl := some_some hk2
     refine hR1 _ _ _ ?_
     rw [some_some hk1]
     exact gvb
   exact cF hb (Aw.xskip (fun _ _ _ hq => blk_m (then_m hq)) (Aw.oreg (ye (sp 18 [z2, z3, (5, ii (w64 (s2 + (1 : Int)))), (10, ii s2), (11, ii (w64 (s2 + (1 : Int)))), (17, bb (decide (z1 = x_n)))]) [] 0 (hN2 (w64 (s2 + (1 : Int))) _ _ _ (some_some hh) (el [] (rens_sp kr (ro nr_eI (ri (ri rl_n)))) hs_nil)))))
 refine cF hb (Aw.exit (then_x (hX2 _ _ _ _ _ (some_some hh) ?_)))
 intro hout
 rw [hout] at hk2
 refine blk_x ?_
 obtain rfl := some_some hk2
 exact hN1 () _ _ _ hk1 (el [] (rens_sp kr rl_n) hs_nil)
def Lf15_r0 : List LOper := [oo 2 (.mv (.c (bb false)))]
def Lf15_r1 : List LOper := [om 9 0, oo 10 (.len (.t 9)), oo 11 (.bin .gtr (.t 10) (.c (ii 1048576)))]
def Lf15_r2 : List LOper := [oo 2 (.mv (.c (bb true)))]
def Lf15_r3 : List LOper := [om 12 0, oo 13 (.call 59 [(.t 12)]), oo 3 (.fresh 26 [.nil, .nil]), ⟨none, (.store 2 (.t 3) (.t 13)), none⟩]
def Lf15_r4 : List LOper := [oo 14 (.load true 2 (.t 3)), oo 15 (.call 60 [(.t 14)]), om 4 15]
def Lf15_r5 : List LOper := [om 16 4, oo 17 (.load true 2 (.t 3)), oo 18 (.call 62 [(.t 17)]), oo 19 (.call 61 [(.t 16), (.t 18)]), oo 20 (.un .not (.t 19))]
def Lf15_r6 : List LOper := [oo 2 (.mv (.c (bb false)))]
def Lf15_r7 : List LOper := [oo 21 (.load true 2 (.t 3)), oo 22 (.call 23 [(.t 21)]), oo 23 (.un .not (.t 22))]
def Lf15_r8 : List LOper := [om 24 4, oo 25 (.len (.t 24)), oo 26 (.bin .eql (.t 25) (.c (ii 0))), om 27 26, ⟨(some 28), (.call 21 []), (some (27, true))⟩, oo 29 (.pick (.t 27) (.t 28) (.c (bb false))), om 2 29]
def Lf15_r9 : List LOper := [oo 5 (.mv (.c (ii 0)))]
def Lf15_r10 : List LOper := [om 30 5, oo 31 (.bin .lss (.t 30) (.c (ii 3)))]
def Lf15_r11 : List LOper := [oo 6 (.mv (.c (ii 0)))]
def Lf15_r12 : List LOper := [om 34 6, oo 35 (.fadr 1 (.t 3)), oo 36 (.load false 1 (.t 35)), om 37 5, oo 38 (.iadr 17 (.t 36) (.t 37)), oo 39 (.fadr 14 (.t 38)), oo 40 (.load false 1 (.t 39)), oo 41 (.len (.t 40)), oo 42 (.bin .lss (.t 34) (.t 41))]
def Lf15_r13 : List LOper := [om 45 4, oo 46 (.fadr 1 (.t 3)), oo 47 (.load false 1 (.t 46)), om 48 5, oo 49 (.iadr 17 (.t 47) (.t 48)), oo 50 (.fadr 14 (.t 49)), oo 51 (.load false 1 (.t 50)), om 52 6, oo 53 (.iadr 3 (.t 51) (.t 52)), oo 54 (.fadr 0 (.t 53)), oo 55 (.load false 1 (.t 54)), oo 56 (.call 63 [(.t 45), (.t 55)])]
def Lf15_r14 : List LOper := [oo 2 (.mv (.c (bb false)))]
def Lf15_r15 : List LOper := [om 43 6, oo 44 (.bin .add (.t 43) (.c (ii 1))), om 6 44]
def Lf15_l16 : LCode := (.seq (.seq (.reg false Lf15_r12) (.cond (.t 42) .skip (.exit 2))) (.seq (.block 3 (.seq (.reg false Lf15_r13) (.cond (.t 56) (.seq (.reg false Lf15_r14) .ret) .skip))) (.reg false Lf15_r15)))
def Lf15_r17 : List LOper := [oo 58 (.load true 2 (.t 3)), om 59 5, oo 60 (.call 53 [(.t 58), (.t 59)]), om 57 60, oo 61 (.ext (.t 57) 0), oo 62 (.ext (.t 57) 1), oo 7 (.fresh 26 [.nil, .nil]), ⟨none, (.store 2 (.t 7) (.t 61)), none⟩, om 8 62]
def Lf15_r18 : List LOper := [om 63 8, om 64 63, ⟨(some 65), (.load true 2 (.t 7)), (some (64, true))⟩, ⟨(some 66), (.call 60 [(.t 65)]), (some (64, true))⟩, ⟨(some 67), (.len (.t 66)), (some (64, true))⟩, ⟨(some 68), (.mv (.t 4)), (some (64, true))⟩, ⟨(some 69), (.len (.t 68)), (some (64, true))⟩, ⟨(some 70), (.bin .lss (.t 67) (.t 69)), (some (64, true))⟩, oo 71 (.pick (.t 64) (.t 70) (.c (bb false)))]
def Lf15_r19 : List LOper := [oo 2 (.mv (.c (bb false)))]
def Lf15_r20 : List LOper := [om 32 5, oo 33 (.bin .add (.t 32) (.c (ii 1))), om 5 33]
def Lf15_l21 : LCode := (.seq (.seq (.reg false Lf15_r10) (.cond (.t 31) .skip (.exit 0))) (.seq (.block 1 (.seq (.seq (.reg false Lf15_r11) (.block 2 (.loop Lf15_l16))) (.seq (.reg false Lf15_r17) (.seq (.reg false Lf15_r18) (.cond (.t 71) (.seq (.reg false Lf15_r19) .ret) .skip))))) (.reg false Lf15_r20)))
def Lf15_r22 : List LOper := [oo 72 (.call 21 []), om 2 72]
def Lf15 : LFun := ⟨73, [(.tmp 2)], (.seq (.reg false Lf15_r0) (.seq (.seq (.reg false Lf15_r1) (.cond (.t 11) (.seq (.reg false Lf15_r2) .ret) .skip)) (.seq (.reg false Lf15_r3) (.seq (.reg false Lf15_r4) (.seq (.seq (.reg false Lf15_r5) (.cond (.t 20) (.seq (.reg false Lf15_r6) .ret) .skip)) (.seq (.seq (.reg false Lf15_r7) (.cond (.t 23) (.seq (.reg false Lf15_r8) .ret) .skip)) (.seq (.seq (.reg false Lf15_r9) (.block 0 (.loop Lf15_l21))) (.seq (.reg false Lf15_r22) .ret))))))))⟩
theorem low_laws_FnHostFree : lowFun Go.Proofs.Try.prog 15 = some Lf15 := by kernel_rfl
noncomputable def F_laws_FnHostFree_j7  (s7 : Unit) : Option Bool :=
 Option.bind (F_laws_alive ) fun v8 =>
 some v8
noncomputable def F_laws_FnHostFree_j10 (s9 : Int) (s10 : Unit) : Option (LO Int (JO Unit Bool)) :=
 some (.next (w64 (s9 + (1 : Int))))
noncomputable def F_laws_FnHostFree_j11 (v1 : DHost) (v2 : (List Int)) (s9 : Int) (s11 : Unit) : Option (JO Unit (LO Int (JO Unit Bool))) :=
 Option.bind (F_impl_HostDrop v1 s9) fun v12 =>
 cond v12.2
  (Option.bind (F_impl_HostFree v12.1) fun v13 =>
  cond (decide ((((List.length v13) : Nat) : Int) < (((List.length v2) : Nat) : Int)))
   (some (.out (.ret (.out false))))
   (some (.go ())))
  (some (.go ()))
noncomputable def F_laws_FnHostFree_l14 (v1 : DHost) (v2 : (List Int)) (s9 : Int) (s14 : Int) : Option (LO Int (JO Unit (JO Unit (LO Int (JO Unit Bool))))) :=
 grd ((0 : Int) ≤ s9 ∧ s9 < (((List.length v1.Guests) : Nat) : Int)) (cond (decide (s14 < (((List.length ((List.getD v1.Guests (Int.toNat s9) default).Pages)) : Nat) : Int)))
  (grd ((0 : Int) ≤ s9 ∧ s9 < (((List.length v1.Guests) : Nat) : Int)) (grd ((0 : Int) ≤ s14 ∧ s14 < (((List.length ((List.getD v1.Guests (Int.toNat s9) default).Pages)) : Nat) : Int)) (Option.bind (F_laws_hasInt v2 ((List.getD ((List.getD v1.Guests (Int.toNat s9) default).Pages) (Int.toNat s14) default).Frame)) fun v15 =>
   cond v15
    (some (.ret (.out (.out (.ret (.out false))))))
    (some (.next (w64 (s14 + (1 : Int))))))))
  (some (.ret (.go ()))))
noncomputable def F_laws_FnHostFree_l9 (v1 : DHost) (v2 : (List Int)) (s9 : Int) : Option (LO Int (JO Unit Bool)) :=
 cond (decide (s9 < (3 : Int)))
  (Option.bind (Option.bind (Option.bind (iter (F_laws_FnHostFree_l14 v1 v2 s9) (0 : Int)) LO.val) fun j11 =>
   JO.run j11 (F_laws_FnHostFree_j11 v1 v2 s9)) fun j10 =>
   JO.run j10 (F_laws_FnHostFree_j10 s9))
  (some (.ret (.go ())))
noncomputable def F_laws_FnHostFree (x_code : List Int) : Option Bool :=
 cond (decide ((1048576 : Int) < (((List.length x_code) : Nat) : Int)))
  (some true)
  (Option.bind (F_spec_DrawHostFree x_code) fun v1 =>
  Option.bind (F_impl_HostFree v1) fun v2 =>
  Option.bind (F_spec_HostFree v1) fun v3 =>
  Option.bind (F_laws_sameInts v2 v3) fun v4 =>
  cond (!v4)
   (some false)
   (Option.bind (F_impl_HostOk v1) fun v5 =>
   cond (!v5)
    (cond (decide ((((List.length v2) : Nat) : Int) = (0 : Int)))
     (Option.bind (F_laws_alive ) fun v6 =>
     some v6)
     (some false))
    (Option.bind (Option.bind (iter (F_laws_FnHostFree_l9 v1 v2) (0 : Int)) LO.val) fun j7 =>
     JO.run j7 (F_laws_FnHostFree_j7))))
theorem laws_FnHostFree_fn {x_code : List Int} {R_ : Bool} (hh : F_laws_FnHostFree x_code = some R_) : Fn Try.prog 15 [bo (eI .u8) x_code] (.bool R_) := by
 let z3 : EV := (0, bo (eI .u8) x_code)
 let z4 : EV := (11, bb (decide ((1048576 : Int) < (((List.length x_code) : Nat) : Int))))
 let z5 : EV := (3, pp 0)
 let z6 : EV := (3, pp 2)
 unfold F_laws_FnHostFree at hh
 refine Fn.start low_laws_FnHostFree [0] (E := sp 73 [z3]) kr (v := bb R_) (Hr := []) (k := 0) kr (sy [0] [] (sp 73 [z3]) [] 0 (Aw.seq (sy [0, 11] [] (sp 73 [z3, z4]) [] 0 ?_)))
 rcases cond_some hh with ⟨hb, hh⟩ | ⟨hb, hh⟩
 · exact cT hb (sy [2] [] (sp 73 [(2, bb true)]) [] 0 (Aw.ret (then_r (gvbs hh))))
 refine cF hb (Aw.xskip (fun _ _ _ hq => then_m hq) (Aw.sreg [3] [0, 1, 2] (yj 1  (sp 73 [z3, z4, (12, bo (eI .u8) x_code)]) [] 0 ?_)))
 obtain ⟨v1, hv1, hh⟩ := bind_some hh
 let z7 : EV := (47, .sref 2 [] 0 (List.length v1.Guests) 17)
 let q1 : Root := ⟨53, (fl O_53 v1.Guests)⟩
 let z8 : EH := (1, some q1)
 let z9 : EH := (2, some q1)
 let q2 : Root := ⟨3, (fl (eI .i64) v1.Words)⟩
 let z10 : EH := (0, some q2)
 let z11 : EH := (1, some q2)
 refine ys (.call 59 [(.t 12)]) (some 13) (op_call (r := .agg [.own 3 1 (List.length v1.Words) (fl (eI .i64) v1.Words), .own 53 17 (List.length v1.Guests) (fl O_53 v1.Guests)]) (v := .agg [sw 0 v1.Words, .sref 1 [] 0 (List.length v1.Guests) 17]) (Hr := [z8, z10]) (n' := 2) (spec_DrawHostFree_fn hv1) (clz_v (vs := [bo (eI .u8) x_code]) kr (clz_c (clo_same (clean_bor (cleans_fl cl_eI))) clz_n)) (by simp only [AV.noRef, noRefs, Bool.and_self, noRefs_fl nr_eI, noRefs_fl nr_O_53]) (by simp only [AV.noBor, noBors, Bool.and_self, noBors_fl nb_eI, noBors_fl nb_O_53]) kr ?_)
 let q3 : Root := ⟨26, [sw 0 v1.Words, .sref 1 [] 0 (List.length v1.Guests) 17]⟩
 let z12 : EH := (2, some q3)
 refine yt (sp 73 [z6]) [z10, z8, z12] 3 (Aw.sreg [3, 4] [0, 1, 2, 3] (yu 1 [(14, .agg [sw 0 v1.Words, .sref 1 [] 0 (List.length v1.Guests) 17])] [z10, z8, z12] 3 ?_))
 obtain ⟨v2, hv2, hh⟩ := bind_some hh
 let z13 : EH := (3, some ⟨3, (fl (eI .i64) v2)⟩)
 let z14 : EV := (4, sw 3 v2)
 refine ys (.call 60 [(.t 14)]) (some 15) (op_call (r := .own 3 1 (List.length v2) (fl (eI .i64) v2)) (v := sw 3 v2) (Hr := [z13]) (n' := 4) (impl_HostFree_fn hv2) (clz_v (vs := [.agg [sw 0 v1.Words, .sref 1 [] 0 (List.length v1.Guests) 17]]) kr (clz_c (clo_agg (clos_c (clo_own (c := (eI .i64)) (xs := v1.Words) (e := 3) eqn len_eI no_eI cl_eI kr) (clos_c (clo_flr (B := B_53) (xs := v1.Guests) (e := 53) oc_O_53 len_O_53 eqn kr) clos_n))) clz_n)) (by simp only [AV.noRef, noRefs, Bool.and_self, noRefs_fl nr_eI]) (by simp only [AV.noBor, noBors, Bool.and_self, noBors_fl nb_eI]) kr ?_)
 refine yt (sp 73 [z6, z14]) [z10, z8, z12, z13] 4 (Aw.seq (Aw.sreg [3, 4, 20] [0, 1, 2, 3] (yj 2  (sp 73 [z6, z14, (16, sw 3 v2), (17, .agg [sw 0 v1.Words, .sref 1 [] 0 (List.length v1.Guests) 17])]) [z10, z8, z12, z13] 4 ?_)))
 obtain ⟨v3, hv3, hh⟩ := bind_some hh
 refine ys (.call 62 [(.t 17)]) (some 18) (op_call (r := .own 3 1 (List.length v3) (fl (eI .i64) v3)) (v := sw 4 v3) (Hr := [(4, some ⟨3, (fl (eI .i64) v3)⟩)]) (n' := 5) (spec_HostFree_fn hv3) (clz_v (vs := [.agg [sw 0 v1.Words, .sref 1 [] 0 (List.length v1.Guests) 17]]) kr (clz_c (clo_agg (clos_c (clo_own (c := (eI .i64)) (xs := v1.Words) (e := 3) eqn len_eI no_eI cl_eI kr) (clos_c (clo_flr (B := B_53) (xs := v1.Guests) (e := 53) oc_O_53 len_O_53 eqn kr) clos_n))) clz_n)) (by simp only [AV.noRef, noRefs, Bool.and_self, noRefs_fl nr_eI]) (by simp only [AV.noBor, noBors, Bool.and_self, noBors_fl nb_eI]) kr ?_)
 obtain ⟨v4, hv4, hh⟩ := bind_some hh
 refine ys (.call 61 [(.t 16), (.t 18)]) (some 19) (op_call (r := bb v4) (v := bb v4) (Hr := []) (n' := 5) (laws_sameInts_fn hv4) (clz_v (vs := [sw 3 v2, sw 4 v3]) kr (clz_c (clo_own (c := (eI .i64)) (xs := v2) (e := 3) eqn len_eI no_eI cl_eI kr) (clz_c (clo_own (c := (eI .i64)) (xs := v3) (e := 3) eqn len_eI no_eI cl_eI kr) clz_n))) rfl rfl kr ?_)
 refine yt (sp 73 [z6, z14, (20, bb (!v4))]) [z10, z8, z12, z13] 5 ?_
 rcases cond_some hh with ⟨hb, hh⟩ | ⟨hb, hh⟩
 · exact cT hb (sy [2] [] (sp 73 [(2, bb false)]) [] 5 (Aw.ret (then_r (gvbs hh))))
 refine cF hb (Aw.xskip (fun _ _ _ hq => then_m hq) (Aw.seq (Aw.sreg [3, 4, 23] [0, 1, 2, 3] (yj 1  (sp 73 [z6, z14, (20, bb (!v4)), (21, .agg [sw 0 v1.Words, .sref 1 [] 0 (List.length v1.Guests) 17])]) [z10, z8, z12, z13] 5 ?_))))
 obtain ⟨v5, hv5, hh⟩ := bind_some hh
 refine ys (.call 23 [(.t 21)]) (some 22) (op_call (r := bb v5) (v := bb v5) (Hr := []) (n' := 5) (impl_HostOk_fn hv5) (clz_v (vs := [.agg [sw 0 v1.Words, .sref 1 [] 0 (List.length v1.Guests) 17]]) kr (clz_c (clo_agg (clos_c (clo_own (c := (eI .i64)) (xs := v1.Words) (e := 3) eqn len_eI no_eI cl_eI kr) (clos_c (clo_flr (B := B_53) (xs := v1.Guests) (e := 53) oc_O_53 len_O_53 eqn kr) clos_n))) clz_n)) rfl rfl kr ?_)
 refine yt (sp 73 [z6, z14, (23, bb (!v5))]) [z10, z8, z12, z13] 5 ?_
 rcases cond_some hh with ⟨hb, hh⟩ | ⟨hb, hh⟩
 · refine cT hb (Aw.sreg [2] [] (yu 4 [(24, sw 3 v2), (25, ii (((List.length v2) : Nat) : Int)), (26, bb (decide ((((List.length v2) : Nat) : Int) = (0 : Int)))), (27, bb (decide ((((List.length v2) : Nat) : Int) = (0 : Int))))] [z10, z8, z12, z13] 5 ?_))
   rcases cond_some hh with ⟨hb, hh⟩ | ⟨hb, hh⟩
   · refine yb 26 hb (yb 27 hb ?_)
     obtain ⟨v6, hv6, hh⟩ := bind_some hh
     refine yg (.call 21 []) (some 28) 27 true (oc (laws_alive_fn hv6) ?_)
     exact yt (sp 73 [(2, bb v6)]) [] 5 (Aw.ret (then_r (gvbs hh)))
   exact yb 26 hb (yb 27 hb (yt (sp 73 [(2, bb false)]) [] 5 (Aw.ret (then_r (gvbs hh)))))
 refine cF hb (Aw.xskip (fun _ _ _ hq => then_m hq) ?_)
 obtain ⟨j7, hh, hk7⟩ := bind_some hh
 refine Aw.join (S := Unit) (fun s7 => sp 73 []) (fun s7 => []) 0 (fun s7 => F_laws_FnHostFree_j7 s7 = some R_) ?_ ?_
 · intro s7 hh
   unfold F_laws_FnHostFree_j7 at hh
   refine Aw.sreg [2] [] ?_
   obtain ⟨v8, hv8, hh⟩ := bind_some hh
   refine ys (.call 21 []) (some 72) (oc (laws_alive_fn hv8) ?_)
   exact yt (sp 73 [(2, bb v8)]) [] 0 (Aw.ret (gvbs hh))
 intro Q7 hN7 hR7 hE7
 refine sy [3, 4, 5] [0, 1, 2, 3] (sp 73 [z6, z14, (5, ii 0)]) [z10, z8, z12, z13] 5 (Aw.block ?_)
 obtain ⟨o9, hi9, hk9⟩ := bind_some hh
 refine Aw.iter (fun (s9 : Int) => sp 73 [(3, pp 0), (4, sw 3 v2), (5, ii s9)]) (fun (s9 : Int) => [(0, some ⟨26, [sw 1 v1.Words, .sref 2 [] 0 (List.length v1.Guests) 17]⟩), (1, some ⟨3, (fl (eI .i64) v1.Words)⟩), (2, some ⟨53, (fl O_53 v1.Guests)⟩), (3, some ⟨3, (fl (eI .i64) v2)⟩)]) 4 hi9 (el [some 2, some 0, some 1, some 3] (rens_sp kr (rp 2 (rs (sw 3 v2) (ri rl_n)))) (hq q3 rz (hn nr_eI (hn nr_O_53 (hn nr_eI hs_nil))))) ?_
 intro s9 u9 Q9 hh hN9 hX9 hR9
 let z15 : EV := (49, .ptr 2 [] (0 + (Int.toNat s9) * 17))
 let z16 : EV := (5, ii s9)
 let z17 : EV := (50, .ptr 2 [] (0 + (Int.toNat s9) * 17 + 14))
 let z1 := List.getD v1.Guests (Int.toNat s9) default
 unfold F_laws_FnHostFree_l9 at hh
 refine Aw.seq (Aw.sreg [3, 4, 5, 31] [0, 1, 2, 3] ?_)
 let q4 : Root := ⟨26, [sw 1 v1.Words, .sref 2 [] 0 (List.length v1.Guests) 17]⟩
 let z18 : EH := (0, some q4)
 refine yt (sp 73 [z5, z14, z16, (31, bb (decide (s9 < (3 : Int))))]) [z18, z11, z9, z13] 4 ?_
 rcases cond_some hh with ⟨hb, hh⟩ | ⟨hb, hh⟩
 · refine cT hb (Aw.xskip (fun _ _ _ hq => then_m hq) ?_)
   obtain ⟨j10, hh, hk10⟩ := bind_some hh
   refine Aw.join (S := Unit) (fun s10 => sp 73 [(3, pp 0), (4, sw 3 v2), (5, ii s9)]) (fun s10 => [(0, some ⟨26, [sw 1 v1.Words, .sref 2 [] 0 (List.length v1.Guests) 17]⟩), (1, some ⟨3, (fl (eI .i64) v1.Words)⟩), (2, some ⟨53, (fl O_53 v1.Guests)⟩), (3, some ⟨3, (fl (eI .i64) v2)⟩)]) 4 (fun s10 => F_laws_FnHostFree_j10 s9 s10 = some u9) ?_ ?_
   · intro s10 hh
     unfold F_laws_FnHostFree_j10 at hh
     exact Aw.oreg (ye (sp 73 [z5, z14, (5, ii (w64 (s9 + (1 : Int)))), (32, ii s9), (33, ii (w64 (s9 + (1 : Int))))]) [z18, z11, z9, z13] 4 (hN9 (w64 (s9 + (1 : Int))) _ _ _ (some_some hh) (el [some 0, some 1, some 2, some 3] (rens_sp kr (rp 0 (rs (sw 3 v2) (ri rl_n)))) (hq q4 rz (hn nr_eI (hn nr_O_53 (hn nr_eI hs_nil)))))))
   intro Q10 hN10 hR10 hE10
   refine Aw.block ?_
   obtain ⟨j11, hh, hk11⟩ := bind_some hh
   refine Aw.join (S := Unit) (fun s11 => sp 73 [(3, pp 0), (4, sw 3 v2), (5, ii s9)]) (fun s11 => [(0, some ⟨26, [sw 1 v1.Words, .sref 2 [] 0 (List.length v1.Guests) 17]⟩), (1, some ⟨3, (fl (eI .i64) v1.Words)⟩), (2, some ⟨53, (fl O_53 v1.Guests)⟩), (3, some ⟨3, (fl (eI .i64) v2)⟩)]) 4 (fun s11 => F_laws_FnHostFree_j11 v1 v2 s9 s11 = some j10) ?_ ?_
   · intro s11 hh
     unfold F_laws_FnHostFree_j11 at hh
     refine Aw.sreg [3, 4, 5, 7, 8] [0, 1, 2, 3, 4, 5, 6] (yj 2  (sp 73 [z5, z14, z16, (58, .agg [sw 1 v1.Words, .sref 2 [] 0 (List.length v1.Guests) 17]), (59, ii s9)]) [z18, z11, z9, z13] 4 ?_)
     obtain ⟨v12, hv12, hh⟩ := bind_some hh
     let q5 : Root := ⟨53, (fl O_53 v12.1.Guests)⟩
     let q6 : Root := ⟨3, (fl (eI .i64) v12.1.Words)⟩
     refine ys (.call 53 [(.t 58), (.t 59)]) (some 60) (op_call (r := .tup [.agg [.own 3 1 (List.length v12.1.Words) (fl (eI .i64) v12.1.Words), .own 53 17 (List.length v12.1.Guests) (fl O_53 v12.1.Guests)], bb v12.2]) (v := .tup [.agg [sw 4 v12.1.Words, .sref 5 [] 0 (List.length v12.1.Guests) 17], bb v12.2]) (Hr := [(5, some q5), (4, some q6)]) (n' := 6) (impl_HostDrop_fn hv12) (clz_v (vs := [.agg [sw 1 v1.Words, .sref 2 [] 0 (List.length v1.Guests) 17], ii s9]) kr (clz_c (clo_agg (clos_c (clo_own (c := (eI .i64)) (xs := v1.Words) (e := 3) eqn len_eI no_eI cl_eI kr) (clos_c (clo_flr (B := B_53) (xs := v1.Guests) (e := 53) oc_O_53 len_O_53 eqn kr) clos_n))) (cz1 clz_n))) (by simp only [AV.noRef, noRefs, Bool.and_self, noRefs_fl nr_eI, noRefs_fl nr_O_53]) (by simp only [AV.noBor, noBors, Bool.and_self, noBors_fl nb_eI, noBors_fl nb_O_53]) kr ?_)
     let q7 : Root := ⟨26, [sw 4 v12.1.Words, .sref 5 [] 0 (List.length v12.1.Guests) 17]⟩
     refine yt (sp 73 [z5, z14, z16, (7, pp 6), (8, bb v12.2)]) [z18, z11, z9, z13, (4, some q6), (5, some q5), (6, some q7)] 7 (Aw.sreg [3, 4, 5, 71] [0, 1, 2, 3] (yu 2 [(63, bb v12.2), (64, bb v12.2)] [z18, z11, z9, z13, (4, some q6), (5, some q5), (6, some q7)] 7 ?_))
     rcases cond_some hh with ⟨hb, hh⟩ | ⟨hb, hh⟩
     · refine yb 8 hb (yb 63 hb (yb 64 hb (yu 1 [(8, bb true), (63, bb true), (64, bb true), (65, .agg [sw 4 v12.1.Words, .sref 5 [] 0 (List.length v12.1.Guests) 17])] [z18, z11, z9, z13, (4, some q6), (5, some q5), (6, some q7)] 7 ?_)))
       obtain ⟨v13, hv13, hh⟩ := bind_some hh
       refine yg (.call 60 [(.t 65)]) (some 66) 64 true (op_call (r := .own 3 1 (List.length v13) (fl (eI .i64) v13)) (v := sw 7 v13) (Hr := [(7, some ⟨3, (fl (eI .i64) v13)⟩)]) (n' := 8) (impl_HostFree_fn hv13) (clz_v (vs := [.agg [sw 4 v12.1.Words, .sref 5 [] 0 (List.length v12.1.Guests) 17]]) kr (clz_c (clo_agg (clos_c (clo_own (c := (eI .i64)) (xs := v12.1.Words) (e := 3) eqn len_eI no_eI cl_eI kr) (clos_c (clo_flr (B := B_53) (xs := v12.1.Guests) (e := 53) oc_O_53 len_O_53 eqn kr) clos_n))) clz_n)) (by simp only [AV.noRef, noRefs, Bool.and_self, noRefs_fl nr_eI]) (by simp only [AV.noBor, noBors, Bool.and_self, noBors_fl nb_eI]) kr ?_)
       refine yt (sp 73 [z5, z14, z16, (71, bb (decide ((((List.length v13) : Nat) : Int) < (((List.length v2) : Nat) : Int))))]) [z18, z11, z9, z13] 8 ?_
       rcases cond_some hh with ⟨hb, hh⟩ | ⟨hb, hh⟩
       · refine cT hb (sy [2] [] (sp 73 [(2, bb false)]) [] 8 (Aw.ret (blk_r ?_)))
         obtain rfl := some_some hh
         refine hR10 _ _ _ ((hR9 _ _ _ _ (some_some hk10) ?_))
         intro hout
         rw [hout] at hk9
         refine blk_r ?_
         obtain rfl := some_some hk9
         refine hR7 _ _ _ ?_
         rw [some_some hk7]
         exact gvb
       refine cF hb (Aw.skip (blk_m ?_))
       obtain rfl := some_some hh
       exact hN10 () _ _ _ hk10 (el [some 0, some 1, some 2, some 3] (rens_sp kr (rp 0 (rs (sw 3 v2) (ri rl_n)))) (hq q4 rz (hn nr_eI (hn nr_O_53 (hn nr_eI hs_nil)))))
     refine yb 8 hb (yb 63 hb (yb 64 hb (yt (sp 73 [z5, z14, z16, (71, bb false)]) [z18, z11, z9, z13] 7 (cF rfl (Aw.skip (blk_m ?_))))))
     obtain rfl := some_some hh
     exact hN10 () _ _ _ hk10 (el [some 0, some 1, some 2, some 3] (rens_sp kr (rp 0 (rs (sw 3 v2) (ri rl_n)))) (hq q4 rz (hn nr_eI (hn nr_O_53 (hn nr_eI hs_nil)))))
   intro Q11 hN11 hR11 hE11
   refine sy [3, 4, 5, 6] [0, 1, 2, 3] (sp 73 [z5, z14, z16, (6, ii 0)]) [z18, z11, z9, z13] 4 (Aw.block ?_)
   obtain ⟨o14, hi14, hk14⟩ := bind_some hh
   refine Aw.iter (fun (s14 : Int) => sp 73 [(3, pp 0), (4, sw 3 v2), (5, ii s9), (6, ii s14)]) (fun (s14 : Int) => [(0, some ⟨26, [sw 1 v1.Words, .sref 2 [] 0 (List.length v1.Guests) 17]⟩), (1, some ⟨3, (fl (eI .i64) v1.Words)⟩), (2, some ⟨53, (fl O_53 v1.Guests)⟩), (3, some ⟨3, (fl (eI .i64) v2)⟩)]) 4 hi14 (el [some 0, some 1, some 2, some 3] (rens_sp kr (rp 0 (rs (sw 3 v2) (ri (ri rl_n))))) (hq q4 rz (hn nr_eI (hn nr_O_53 (hn nr_eI hs_nil))))) ?_
   intro s14 u14 Q14 hh hN14 hX14 hR14
   let z19 : EV := (42, bb (decide (s14 < (((List.length (z1.Pages)) : Nat) : Int))))
   let z2 := List.getD (z1.Pages) (Int.toNat s14) default
   unfold F_laws_FnHostFree_l14 at hh
   refine Aw.seq (Aw.sreg [3, 4, 5, 6, 42] [0, 1, 2, 3] ?_)
   obtain ⟨hg864, hh⟩ := grd_some hh
   refine yjc 6 [(0 : Int) ≤ s9 ∧ s9 < (((List.length v1.Guests) : Nat) : Int)] (sp 73 [z5, z14, z16, (6, ii s14), (34, ii s14), (35, .ptr 0 [] 1), (36, .sref 2 [] 0 (List.length v1.Guests) 17), (37, ii s9), (38, .ptr 2 [] (0 + (Int.toNat s9) * 17)), (39, .ptr 2 [] (0 + (Int.toNat s9) * 17 + 14))]) [z18, z11, z9, z13] 4 (.cons hg864 .nil) (ys (.load false 1 (.t 39)) (some 40) (op_load (c := O_53) (xs := v1.Guests) (e := 53) (r := 2) (π := []) (o := 0 + (Int.toNat s9) * 17 + 14) (i := (Int.toNat s9)) (off := 14) (v := .sref 2 [0 + (Int.toNat s9) * 17 + 14 + 0] 0 (List.length (z1.Pages)) 3) len_O_53 kr kr ltn ltn dd kr ?_))
   refine yt (sp 73 [z5, z14, z16, (6, ii s14), z19]) [z18, z11, z9, z13] 4 ?_
   rcases cond_some hh with ⟨hb, hh⟩ | ⟨hb, hh⟩
   · refine cT hb (Aw.xskip (fun _ _ _ hq => then_m hq) (Aw.seq (Aw.block (Aw.sreg [3, 4, 5, 6, 56] [0, 1, 2, 3] ?_))))
     obtain ⟨hg863, hh⟩ := grd_some hh
     refine yjc 6 [(0 : Int) ≤ s9 ∧ s9 < (((List.length v1.Guests) : Nat) : Int)] (sp 73 [z5, z14, z16, (6, ii s14), z19, (45, sw 3 v2), (46, .ptr 0 [] 1), z7, (48, ii s9), z15, z17]) [z18, z11, z9, z13] 4 (.cons hg863 .nil) (ys (.load false 1 (.t 50)) (some 51) (op_load (c := O_53) (xs := v1.Guests) (e := 53) (r := 2) (π := []) (o := 0 + (Int.toNat s9) * 17 + 14) (i := (Int.toNat s9)) (off := 14) (v := .sref 2 [0 + (Int.toNat s9) * 17 + 14 + 0] 0 (List.length (z1.Pages)) 3) len_O_53 kr kr ltn ltn dd kr ?_))
     obtain ⟨hg862, hh⟩ := grd_some hh
     refine yjc 3 [(0 : Int) ≤ s14 ∧ s14 < (((List.length (z1.Pages)) : Nat) : Int)] (sp 73 [z5, z14, z16, (6, ii s14), z19, (45, sw 3 v2), (46, .ptr 0 [] 1), z7, (48, ii s9), z15, z17, (51, .sref 2 [0 + (Int.toNat s9) * 17 + 14 + 0] 0 (List.length (z1.Pages)) 3), (52, ii s14), (53, .ptr 2 [0 + (Int.toNat s9) * 17 + 14 + 0] (0 + (Int.toNat s14) * 3)), (54, .ptr 2 [0 + (Int.toNat s9) * 17 + 14 + 0] (0 + (Int.toNat s14) * 3 + 0))]) [z18, z11, z9, z13] 4 (.cons hg862 .nil) (ys (.load false 1 (.t 54)) (some 55) (op_load (c := C_50) (xs := z1.Pages) (e := 50) (r := 2) (π := [0 + (Int.toNat s9) * 17 + 14 + 0]) (o := 0 + (Int.toNat s14) * 3 + 0) (i := (Int.toNat s14)) (off := 0) (v := ii (z2.Frame)) len_C_50 kr (get_fl (e := 53) (e' := 50) (sz' := 3) (m' := (List.length (z1.Pages))) (cs' := (fl C_50 (z1.Pages))) (c := O_53) (xs := v1.Guests) (i := (Int.toNat s9)) (off := 14) len_O_53 kr ltn ltn dd rfl kr) ltn ltn dd kr ?_))
     obtain ⟨v15, hv15, hh⟩ := bind_some hh
     refine ys (.call 63 [(.t 45), (.t 55)]) (some 56) (op_call (r := bb v15) (v := bb v15) (Hr := []) (n' := 4) (laws_hasInt_fn hv15) (clz_v (vs := [sw 3 v2, ii (z2.Frame)]) kr (clz_c (clo_own (c := (eI .i64)) (xs := v2) (e := 3) eqn len_eI no_eI cl_eI kr) (cz1 clz_n))) rfl rfl kr ?_)
     refine yt (sp 73 [z5, z14, z16, (6, ii s14), (56, bb v15)]) [z18, z11, z9, z13] 4 ?_
     rcases cond_some hh with ⟨hb, hh⟩ | ⟨hb, hh⟩
     · refine cT hb (sy [2] [] (sp 73 [(2, bb false)]) [] 4 (Aw.ret (blk_r (then_r ?_))))
       refine hR14 _ _ _ _ (some_some hh) ?_
       intro hout
       rw [hout] at hk14
       refine blk_r ?_
       obtain rfl := some_some hk14
       refine hR11 _ _ _ (blk_r ?_)
       obtain rfl := some_some hk11
       refine hR10 _ _ _ ((hR9 _ _ _ _ (some_some hk10) ?_))
       intro hout
       rw [hout] at hk9
       refine blk_r ?_
       obtain rfl := some_some hk9
       refine hR7 _ _ _ ?_
       rw [some_some hk7]
       exact gvb
     exact cF hb (Aw.xskip (fun _ _ _ hq => blk_m (then_m hq)) (Aw.oreg (ye (sp 73 [z5, z14, z16, (6, ii (w64 (s14 + (1 : Int)))), (43, ii s14), (44, ii (w64 (s14 + (1 : Int)))), (56, bb v15)]) [z18, z11, z9, z13] 4 (hN14 (w64 (s14 + (1 : Int))) _ _ _ (some_some hh) (el [some 0, some 1, some 2, some 3] (rens_sp kr (rp 0 (rs (sw 3 v2) (ri (ri rl_n))))) (hq q4 rz (hn nr_eI (hn nr_O_53 (hn nr_eI hs_nil)))))))))
   refine cF hb (Aw.exit (then_x (hX14 _ _ _ _ _ (some_some hh) ?_)))
   intro hout
   rw [hout] at hk14
   refine blk_x ?_
   obtain rfl := some_some hk14
   exact hN11 () _ _ _ hk11 (el [some 0, some 1, some 2, some 3] (rens_sp kr (rp 0 (rs (sw 3 v2) (ri rl_n)))) (hq q4 rz (hn nr_eI (hn nr_O_53 (hn nr_eI hs_nil)))))
 refine cF hb (Aw.exit (then_x (hX9 _ _ _ _ _ (some_some hh) ?_)))
 intro hout
 rw [hout] at hk9
 refine blk_x ?_
 obtain rfl := some_some hk9
 exact hN7 () _ _ _ hk7 (el [] (rens_sp kr rl_n) hs_nil)
end Go.Proofs.Ytlikfpmbcdlnjaa
