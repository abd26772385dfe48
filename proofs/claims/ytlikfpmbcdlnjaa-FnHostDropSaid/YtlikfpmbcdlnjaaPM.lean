/- Memories are drawn. -/
import Derived.Test.YtlikfpmbcdlnjaaPD
import Derived.Test.YtlikfpmbcdlnjaaPO
namespace Go.Proofs.Ytlikfpmbcdlnjaa
set_option linter.all false
theorem odd_d {m n : Int} {r : Dl20Rd} (R : Rdr m r) (hm : m ≤ 1000000) : Ex (F___spec_l20Rd__odd r n) (fun v => Rdr (m + 1) v.1) := by
 unfold F___spec_l20Rd__odd
 refine Ex.cond (fun h => ?_) fun _ => Ex.ret (R.up (by omega))
 have := of_decide_eq_true h
 exact Ex.bind (pick_d R hm (by omega)) fun v1 ⟨R1, _, _⟩ => Ex.ret R1
theorem odd_d0 {m n : Int} {r : Dl20Rd} (R : Rdr m r) (hm : m ≤ 1000000) : Ex (F___spec_l20Rd__odd r n) (fun v => Rdr (m + 1) v.1 ∧ (n ≤ 0 → v.2 = false)) := by
 unfold F___spec_l20Rd__odd
 refine Ex.cond (fun h => ?_) fun _ => Ex.ret ⟨R.up (by omega), fun _ => rfl⟩
 have := of_decide_eq_true h
 exact Ex.bind (pick_d R hm (by omega)) fun v1 ⟨R1, _, _⟩ => Ex.ret ⟨R1, fun _ => by omega⟩
theorem entryWord_d (e : DEntry) : Ex (F_spec_EntryWord e) (fun _ => True) := by
 by_cases h : 0 ≤ e.Page ∧ e.Page ≤ 7
 · rw [entryWord_s h.1 h.2]; exact Ex.ret trivial
 · rw [entryWord_bad_s h]; exact Ex.ret trivial
theorem mem_loop {m : Int} (hm : m ≤ 990000) (h0 : 0 ≤ m) (s : List Int × Int × List Int × Int) (hs : 0 ≤ s.2.2.2 ∧ s.2.2.2 ≤ 64 ∧ Rdr (m + 8 * s.2.2.2) ⟨s.1, s.2.1⟩ ∧ (s.2.2.1.length : Int) = s.2.2.2) :
 Ex (F_spec_l20Mem_l7 s) (fun o => (∃ s', o = .next s' ∧ (0 ≤ s'.2.2.2 ∧ s'.2.2.2 ≤ 64 ∧ Rdr (m + 8 * s'.2.2.2) ⟨s'.1, s'.2.1⟩ ∧ (s'.2.2.1.length : Int) = s'.2.2.2) ∧ 64 - s'.2.2.2.toNat < 64 - s.2.2.2.toNat) ∨ ∃ t, o = .ret (.go t) ∧ (Rdr (m + 512) ⟨t.1, t.2.1⟩ ∧ t.2.2.length = 64)) := by
 obtain ⟨b, p, mem, k⟩ := s
 obtain ⟨k0, k1, R, hl⟩ := hs
 simp only at k0 k1 R hl
 unfold F_spec_l20Mem_l7
 refine Ex.cond (fun hk => ?_) fun hk => ?_
 · have hk : k < 64 := of_decide_eq_true hk
   refine Ex.join (P := fun s8 : List Int × Int × Int => Rdr (m + 8 * k + 3) ⟨s8.1, s8.2.1⟩) ?_ fun s8 R8 => ?_
   · refine Ex.bind (pick_d R (by omega) (by omega)) fun v1 ⟨R1, a1, b1⟩ => ?_
     refine Ex.cond (fun _ => ?_) fun _ => ?_
     · exact Ex.bind (word_d R1 (by omega)) fun v2 ⟨R2, _, _⟩ => Ex.ret ⟨_, rfl, R2.up (by omega)⟩
     · exact Ex.ret ⟨_, rfl, R1.up (by omega)⟩
   · unfold F_spec_l20Mem_j8
     refine Ex.join (P := fun s9 : List Int × Int × Int => Rdr (m + 8 * k + 7) ⟨s9.1, s9.2.1⟩) ?_ fun s9 R9 => ?_
     · have e : ∀ Q : JO (List Int × Int × Int) (LO (List Int × Int × List Int × Int) (JO (List Int × Int × List Int) (Dl20Rd × List Int))) → Prop, (∀ v : Dl20Rd × Int, ∀ w, Rdr (m + 8 * k + 7) v.1 → Q (.go (v.1.b, v.1.p, w))) → Ex (Option.bind (F___spec_l20Rd__pick (Dl20Rd.mk s8.1 s8.2.1) (5 : Int)) fun v10 =>
        Option.bind (F___spec_l20Rd__pick v10.1 (4 : Int)) fun v11 =>
        Option.bind (F___spec_l20Rd__pick v11.1 (3 : Int)) fun v12 =>
        Option.bind (F___spec_l20Rd__pick v12.1 (8 : Int)) fun v13 =>
        Option.bind (F_spec_EntryWord (DEntry.mk (decide ((0 : Int) < v10.2)) (decide ((0 : Int) < v11.2)) (decide ((0 : Int) < v12.2)) v13.2)) fun v14 =>
        some (.go (v13.1.b, v13.1.p, v14))) Q := fun Q hQ => by
        refine Ex.bind (pick_d R8 (by omega) (by omega)) fun v1 ⟨R1, a1, b1⟩ => ?_
        refine Ex.bind (pick_d R1 (by omega) (by omega)) fun v2 ⟨R2, a2, b2⟩ => ?_
        refine Ex.bind (pick_d R2 (by omega) (by omega)) fun v3 ⟨R3, a3, b3⟩ => ?_
        refine Ex.bind (pick_d R3 (by omega) (by omega)) fun v4 ⟨R4, a4, b4⟩ => ?_
        refine Ex.bind (entryWord_d _) fun v5 _ => ?_
        exact Ex.ret (hQ v4 v5 (R4.up (by omega)))
       refine Ex.cond (fun _ => ?_) fun _ => ?_
       · exact e _ fun v w h => ⟨_, rfl, h⟩
       · refine Ex.cond (fun _ => ?_) fun _ => ?_
         · exact e _ fun v w h => ⟨_, rfl, h⟩
         · exact Ex.ret ⟨_, rfl, R8.up (by omega)⟩
     · unfold F_spec_l20Mem_j9
       refine Ex.grd ⟨by simp only [List.length_cons, List.length_nil]; omega, by simp only [List.length_cons, List.length_nil]; omega⟩ (Ex.ret (.inl ⟨_, rfl, ⟨?_, ?_, ?_, ?_⟩, ?_⟩))
       all_goals simp only [w64_in (z := k + 1) (by omega) (by omega), List.length_append, List.length_cons, List.length_nil]
       · omega
       · omega
       · exact R9.up (by omega)
       · omega
       · omega
 · have hk : ¬ k < 64 := of_decide_eq_false hk
   exact Ex.ret (.inr ⟨_, rfl, R.up (by omega), by show mem.length = 64; omega⟩)
theorem mem_d {m n : Int} {r : Dl20Rd} (R : Rdr m r) (h0 : 0 ≤ m) (hm : m ≤ 990000) : Ex (F_spec_l20Mem r n) (fun v => Rdr (m + 600) v.1 ∧ v.2.length ≤ 64 ∧ (n ≤ 0 → v.2.length = 64)) := by
 unfold F_spec_l20Mem
 refine Ex.join (Ex.loopv (fun s : List Int × Int × List Int × Int => 0 ≤ s.2.2.2 ∧ s.2.2.2 ≤ 64 ∧ Rdr (m + 8 * s.2.2.2) ⟨s.1, s.2.1⟩ ∧ (s.2.2.1.length : Int) = s.2.2.2) (fun s => 64 - s.2.2.2.toNat) (fun t => Rdr (m + 512) ⟨t.1, t.2.1⟩ ∧ t.2.2.length = 64) ⟨by simp, by simp, R.up (by simp), by simp⟩ (mem_loop hm h0)) fun s1 ⟨R1, hl⟩ => ?_
 unfold F_spec_l20Mem_j1
 refine Ex.join (P := fun s2 : List Int × Int × List Int => Rdr (m + 600) ⟨s2.1, s2.2.1⟩ ∧ s2.2.2.length ≤ 64 ∧ (n ≤ 0 → s2.2.2.length = 64)) ?_ fun s2 h2 => Ex.ret h2
 refine Ex.bind (odd_d0 R1 (by omega)) fun v3 ⟨R3, o3⟩ => ?_
 refine Ex.cond (fun hv => ?_) fun _ => ?_
 · refine Ex.bind (pick_d R3 (by omega) (by omega)) fun v4 ⟨R4, a4, b4⟩ => ?_
   refine Ex.cond (fun _ => ?_) fun _ => ?_
   · exact Ex.grd ⟨by omega, by omega, by omega⟩ (Ex.ret ⟨_, rfl, R4.up (by omega), by rw [List.length_take]; omega, fun hn => by rw [o3 hn] at hv; cases hv⟩)
   · refine Ex.bind (pick_d R4 (by omega) (by omega)) fun v5 ⟨R5, a5, b5⟩ => ?_
     refine Ex.bind (pick_d R5 (by omega) (by omega)) fun v6 ⟨R6, a6, b6⟩ => ?_
     exact Ex.grd ⟨by omega, by omega⟩ (Ex.ret ⟨_, rfl, R6.up (by omega), by rw [List.length_set]; omega, fun hn => by rw [o3 hn] at hv; cases hv⟩)
 · exact Ex.ret ⟨_, rfl, R3.up (by omega), by show s1.2.2.length ≤ 64; omega, fun _ => hl⟩
theorem alive_d {Q : Bool → Prop} (h : Q true) : Ex F_laws_alive Q := ⟨_, alive_t, h⟩
end Go.Proofs.Ytlikfpmbcdlnjaa
