/- Cores are drawn. -/
import Derived.Test.YtlikfpmbcdlnjaaPM
import Derived.Test.YtlikfpmbcdlnjaaWG1
namespace Go.Proofs.Ytlikfpmbcdlnjaa
set_option linter.all false
theorem core_loop {m : Int} (hm : m ≤ 990000) (h0 : 0 ≤ m) (s : List Int × Int × List Int × Int) (hs : 0 ≤ s.2.2.2 ∧ s.2.2.2 ≤ 4 ∧ Rdr (m + 8 * s.2.2.2) ⟨s.1, s.2.1⟩ ∧ (s.2.2.1.length : Int) = s.2.2.2) :
 Ex (F_spec_l20Core_l21 s) (fun o => (∃ s', o = .next s' ∧ (0 ≤ s'.2.2.2 ∧ s'.2.2.2 ≤ 4 ∧ Rdr (m + 8 * s'.2.2.2) ⟨s'.1, s'.2.1⟩ ∧ (s'.2.2.1.length : Int) = s'.2.2.2) ∧ 4 - s'.2.2.2.toNat < 4 - s.2.2.2.toNat) ∨ ∃ t, o = .ret (.go t) ∧ (Rdr (m + 32) ⟨t.1, t.2.1⟩ ∧ t.2.2.length = 4)) := by
 obtain ⟨b, p, rs, k⟩ := s
 obtain ⟨k0, k1, R, hl⟩ := hs
 simp only at k0 k1 R hl
 unfold F_spec_l20Core_l21
 refine Ex.cond (fun hk => ?_) fun hk => ?_
 · have hk : k < 4 := of_decide_eq_true hk
   refine Ex.bind (pick_d R (by omega) (by omega)) fun v1 ⟨R1, a1, b1⟩ => ?_
   refine Ex.bind (pick_d R1 (by omega) (by omega)) fun v2 ⟨R2, a2, b2⟩ => ?_
   refine Ex.bind (word_d R2 (by omega)) fun v3 ⟨R3, a3, b3⟩ => ?_
   refine Ex.bind (pick_d R3 (by omega) (by omega)) fun v4 ⟨R4, a4, b4⟩ => ?_
   refine Ex.grd ⟨a4, by simp only [List.length_cons, List.length_nil]; omega⟩ ?_
   refine Ex.grd ⟨by simp only [List.length_cons, List.length_nil]; omega, by simp only [List.length_cons, List.length_nil]; omega⟩ (Ex.ret (.inl ⟨_, rfl, ⟨?_, ?_, ?_, ?_⟩, ?_⟩))
   all_goals simp only [w64_in (z := k + 1) (by omega) (by omega), List.length_append, List.length_cons, List.length_nil]
   · omega
   · omega
   · exact R4.up (by omega)
   · omega
   · omega
 · have hk : ¬ k < 4 := of_decide_eq_false hk
   exact Ex.ret (.inr ⟨_, rfl, R.up (by omega), by show rs.length = 4; omega⟩)
theorem core_d {m n : Int} {r : Dl20Rd} (R : Rdr m r) (h0 : 0 ≤ m) (hm : m ≤ 980000) : Ex (F_spec_l20Core r n) (fun v => Rdr (m + 60) v.1 ∧ v.2.Regs.length ≤ 4) := by
 unfold F_spec_l20Core
 refine Ex.bind (pick_d R (by omega) (by omega)) fun v1 ⟨R1, a1, b1⟩ => ?_
 refine Ex.bind (pick_d R1 (by omega) (by omega)) fun v2 ⟨R2, a2, b2⟩ => ?_
 refine Ex.grd ⟨a2, by simp only [List.length_cons, List.length_nil]; omega⟩ ?_
 refine Ex.bind (pick_d R2 (by omega) (by omega)) fun v3 ⟨R3, a3, b3⟩ => ?_
 refine Ex.bind (pick_d R3 (by omega) (by omega)) fun v4 ⟨R4, a4, b4⟩ => ?_
 refine Ex.bind (pick_d R4 (by omega) (by omega)) fun v5 ⟨R5, a5, b5⟩ => ?_
 refine Ex.bind (pick_d R5 (by omega) (by omega)) fun v6 ⟨R6, a6, b6⟩ => ?_
 refine Ex.bind (pick_d R6 (by omega) (by omega)) fun v7 ⟨R7, a7, b7⟩ => ?_
 refine Ex.bind (pick_d R7 (by omega) (by omega)) fun v8 ⟨R8, a8, b8⟩ => ?_
 refine Ex.bind (pick_d R8 (by omega) (by omega)) fun v9 ⟨R9, a9, b9⟩ => ?_
 refine Ex.bind (pick_d R9 (by omega) (by omega)) fun v10 ⟨R10, a10, b10⟩ => ?_
 refine Ex.bind (pick_d R10 (by omega) (by omega)) fun v11 ⟨R11, a11, b11⟩ => ?_
 refine Ex.bind (pick_d R11 (by omega) (by omega)) fun v12 ⟨R12, a12, b12⟩ => ?_
 refine Ex.bind (pick_d R12 (by omega) (by omega)) fun v13 ⟨R13, a13, b13⟩ => ?_
 have R13 : Rdr (m + 13) v13.1 := R13.up (by omega)
 refine Ex.join (Ex.loopv (fun s : List Int × Int × List Int × Int => 0 ≤ s.2.2.2 ∧ s.2.2.2 ≤ 4 ∧ Rdr (m + 13 + 8 * s.2.2.2) ⟨s.1, s.2.1⟩ ∧ (s.2.2.1.length : Int) = s.2.2.2) (fun s => 4 - s.2.2.2.toNat) (fun t => Rdr (m + 13 + 32) ⟨t.1, t.2.1⟩ ∧ t.2.2.length = 4) ⟨by simp, by simp, R13.up (by simp), by simp⟩ (core_loop (by omega) (by omega))) fun s1 ⟨RL, hl⟩ => ?_
 unfold F_spec_l20Core_j14
 refine Ex.join (P := fun s2 : List Int × Int × List Int × Int × Int => Rdr (m + 60) ⟨s2.1, s2.2.1⟩ ∧ s2.2.2.1.length ≤ 4) ?_ fun s2 h2 => Ex.ret h2
 refine Ex.bind (odd_d RL (by omega)) fun v16 R16 => ?_
 have R16 : Rdr (m + 46) v16.1 := R16.up (by omega)
 refine Ex.cond (fun _ => ?_) fun _ => ?_
 · refine Ex.bind (pick_d R16 (by omega) (by omega)) fun v17 ⟨R17, a17, b17⟩ => ?_
   refine Ex.cond (fun _ => ?_) fun _ => ?_
   · exact Ex.grd ⟨by omega, by omega, by omega⟩ (Ex.ret ⟨_, rfl, R17.up (by omega), by simp only [List.length_take]; omega⟩)
   · refine Ex.cond (fun _ => ?_) fun _ => ?_
     · exact Ex.bind (pick_d R17 (by omega) (by omega)) fun v18 ⟨R18, a18, b18⟩ => Ex.ret ⟨_, rfl, R18.up (by omega), by simp only; omega⟩
     · refine Ex.cond (fun _ => ?_) fun _ => ?_
       · exact Ex.bind (pick_d R17 (by omega) (by omega)) fun v18 ⟨R18, a18, b18⟩ => Ex.ret ⟨_, rfl, R18.up (by omega), by simp only; omega⟩
       · exact Ex.bind (pick_d R17 (by omega) (by omega)) fun v18 ⟨R18, a18, b18⟩ => Ex.grd ⟨by omega, by omega⟩ (Ex.ret ⟨_, rfl, R18.up (by omega), by simp only [List.length_set]; omega⟩)
 · exact Ex.ret ⟨_, rfl, R16.up (by omega), by simp only; omega⟩
end Go.Proofs.Ytlikfpmbcdlnjaa
