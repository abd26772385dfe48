/- Machines are drawn. -/
import Derived.Test.YtlikfpmbcdlnjaaPC
import Derived.Test.YtlikfpmbcdlnjaaPT0
namespace Go.Proofs.Ytlikfpmbcdlnjaa
set_option linter.all false
theorem insWord_d (x : DIns) : Ex (F_spec_InsWord x) (fun _ => True) := by
 unfold F_spec_InsWord
 rw [insOk_s]
 exact Ex.cond (fun _ => Ex.ret trivial) fun _ => Ex.ret trivial
theorem ins_d {m n : Int} {r : Dl20Rd} (R : Rdr m r) (hm : m ≤ 999000) : Ex (F_spec_l20Ins r n) (fun v => Rdr (m + 6) v.1) := by
 unfold F_spec_l20Ins
 refine Ex.bind (pick_d R (by omega) (by omega)) fun v1 ⟨R1, a1, b1⟩ => ?_
 refine Ex.bind (pick_d R1 (by omega) (by omega)) fun v2 ⟨R2, a2, b2⟩ => ?_
 refine Ex.bind (pick_d R2 (by omega) (by omega)) fun v3 ⟨R3, a3, b3⟩ => ?_
 refine Ex.join (P := fun s : Int × List Int × Int × Int × Int => Rdr (m + 6) ⟨s.2.1, s.2.2.1⟩) ?_ fun s hs => Ex.ret hs
 refine Ex.bind (odd_d R3 (by omega)) fun v5 R5 => ?_
 refine Ex.cond (fun _ => ?_) fun _ => Ex.ret ⟨_, rfl, R5.up (by omega)⟩
 refine Ex.bind (pick_d R5 (by omega) (by omega)) fun v6 ⟨R6, a6, b6⟩ => ?_
 refine Ex.cond (fun _ => ?_) fun _ => ?_
 · exact Ex.bind (pick_d R6 (by omega) (by omega)) fun v7 ⟨R7, _, _⟩ => Ex.ret ⟨_, rfl, R7.up (by omega)⟩
 · refine Ex.cond (fun _ => ?_) fun _ => ?_
   · exact Ex.ret ⟨_, rfl, R6.up (by omega)⟩
   · exact Ex.bind (pick_d R6 (by omega) (by omega)) fun v7 ⟨R7, _, _⟩ => Ex.ret ⟨_, rfl, R7.up (by omega)⟩
theorem code_loop {m : Int} {L : Nat} (hL : L ≤ 64) (hm : m ≤ 900000) (h0 : 0 ≤ m) (s : List Int × Int × List Int × Int) (hs : 0 ≤ s.2.2.2 ∧ s.2.2.2 ≤ (L : Int) ∧ Rdr (m + 12 * s.2.2.2) ⟨s.1, s.2.1⟩ ∧ s.2.2.1.length = L) :
 Ex (F_spec_l20Code_l3 s) (fun o => (∃ s', o = .next s' ∧ (0 ≤ s'.2.2.2 ∧ s'.2.2.2 ≤ (L : Int) ∧ Rdr (m + 12 * s'.2.2.2) ⟨s'.1, s'.2.1⟩ ∧ s'.2.2.1.length = L) ∧ L - s'.2.2.2.toNat < L - s.2.2.2.toNat) ∨ ∃ t, o = .ret (.go t) ∧ (Rdr (m + 768) ⟨t.2.1, t.2.2⟩ ∧ t.1.length = L)) := by
 obtain ⟨b, p, mem, k⟩ := s
 obtain ⟨k0, k1, R, hl⟩ := hs
 simp only at k0 k1 R hl
 unfold F_spec_l20Code_l3
 refine Ex.cond (fun hk => ?_) fun hk => ?_
 · have hk : k < (mem.length : Int) := of_decide_eq_true hk
   refine Ex.join (P := fun s4 : List Int × Int × List Int => Rdr (m + 12 * k + 12) ⟨s4.1, s4.2.1⟩ ∧ s4.2.2.length = L) ?_ fun s4 ⟨R4, hl4⟩ => ?_
   · refine Ex.join (P := fun _ : Bool => True) (Ex.cond (fun _ => Ex.ret ⟨_, rfl, trivial⟩) fun _ => Ex.ret ⟨_, rfl, trivial⟩) fun s5 _ => ?_
     unfold F_spec_l20Code_j5
     refine Ex.cond (fun _ => ?_) fun _ => ?_
     · refine Ex.bind (pick_d R (by omega) (by omega)) fun v6 ⟨R6, a6, b6⟩ => ?_
       refine Ex.cond (fun _ => ?_) fun _ => Ex.ret ⟨_, rfl, R6.up (by omega), hl⟩
       refine Ex.bind (pick_d R6 (by omega) (by omega)) fun v7 ⟨R7, a7, b7⟩ => ?_
       refine Ex.bind (pick_d R7 (by omega) (by omega)) fun v8 ⟨R8, a8, b8⟩ => ?_
       refine Ex.bind (pick_d R8 (by omega) (by omega)) fun v9 ⟨R9, a9, b9⟩ => ?_
       refine Ex.bind (entryWord_d _) fun v10 _ => ?_
       exact Ex.grd ⟨k0, hk⟩ (Ex.ret ⟨_, rfl, R9.up (by omega), by simp only [List.length_set]; exact hl⟩)
     · refine Ex.bind (ins_d R (by omega)) fun v11 R11 => ?_
       refine Ex.join (P := fun s12 : List Int × Int × Int => Rdr (m + 12 * k + 8) ⟨s12.1, s12.2.1⟩) ?_ fun s12 R12 => ?_
       · refine Ex.bind (pick_d R11 (by omega) (by omega)) fun v16 ⟨R16, a16, b16⟩ => ?_
         refine Ex.cond (fun _ => ?_) fun _ => Ex.ret ⟨_, rfl, R16.up (by omega)⟩
         refine Ex.bind (pick_d R16 (by omega) (by omega)) fun v17 ⟨R17, a17, b17⟩ => ?_
         exact Ex.grd ⟨a17, b17⟩ (Ex.ret ⟨_, rfl, R17.up (by omega)⟩)
       · unfold F_spec_l20Code_j12
         refine Ex.join (P := fun s13 : List Int × Int × Int => Rdr (m + 12 * k + 9) ⟨s13.1, s13.2.1⟩) ?_ fun s13 R13 => ?_
         · refine Ex.cond (fun _ => ?_) fun _ => Ex.ret ⟨_, rfl, R12.up (by omega)⟩
           refine Ex.bind (pick_d R12 (by omega) (by omega)) fun v15 ⟨R15, a15, b15⟩ => ?_
           exact Ex.cond (fun _ => Ex.ret ⟨_, rfl, R15.up (by omega)⟩) fun _ => Ex.ret ⟨_, rfl, R15.up (by omega)⟩
         · unfold F_spec_l20Code_j13
           refine Ex.bind (insWord_d _) fun v14 _ => ?_
           exact Ex.grd ⟨k0, hk⟩ (Ex.ret ⟨_, rfl, R13.up (by omega), by simp only [List.length_set]; exact hl⟩)
   · unfold F_spec_l20Code_j4
     refine Ex.ret (.inl ⟨_, rfl, ⟨?_, ?_, ?_, ?_⟩, ?_⟩)
     all_goals simp only [w64_in (z := k + 1) (by omega) (by omega)]
     · omega
     · omega
     · exact R4.up (by omega)
     · exact hl4
     · omega
 · have hk : ¬ k < (mem.length : Int) := of_decide_eq_false hk
   exact Ex.ret (.inr ⟨_, rfl, R.up (by omega), hl⟩)
theorem code_d {m : Int} {r : Dl20Rd} (R : Rdr m r) (h0 : 0 ≤ m) (hm : m ≤ 800000) : Ex (F_spec_l20Code r) (fun v => Rdr (m + 1400) v.1 ∧ v.2.length = 64) := by
 unfold F_spec_l20Code
 refine Ex.bind (mem_d R h0 (by omega)) fun v1 ⟨R1, hl, hl0⟩ => ?_
 have hl0 := hl0 (by omega)
 refine Ex.join (Ex.loopv (fun s : List Int × Int × List Int × Int => 0 ≤ s.2.2.2 ∧ s.2.2.2 ≤ (v1.2.length : Int) ∧ Rdr (m + 600 + 12 * s.2.2.2) ⟨s.1, s.2.1⟩ ∧ s.2.2.1.length = v1.2.length) (fun s => v1.2.length - s.2.2.2.toNat) (fun t => Rdr (m + 600 + 768) ⟨t.2.1, t.2.2⟩ ∧ t.1.length = v1.2.length) ⟨by simp, by simp, R1.up (by simp), rfl⟩ (code_loop hl (by omega) (by omega))) fun s2 ⟨R2, h2⟩ => ?_
 unfold F_spec_l20Code_j2
 exact Ex.ret ⟨R2.up (by omega), by show s2.1.length = 64; omega⟩
theorem words_loop {m : Int} (hm : m ≤ 900000) (h0 : 0 ≤ m) (s : List Int × Int × List Int × Int) (hs : 0 ≤ s.2.2.2 ∧ s.2.2.2 ≤ 3 ∧ Rdr (m + 2 * (3 - s.2.2.2)) ⟨s.1, s.2.1⟩ ∧ (s.2.2.1.length : Int) + s.2.2.2 ≤ 3) :
 Ex (F_spec_l20Bare_l14 s) (fun o => (∃ s', o = .next s' ∧ (0 ≤ s'.2.2.2 ∧ s'.2.2.2 ≤ 3 ∧ Rdr (m + 2 * (3 - s'.2.2.2)) ⟨s'.1, s'.2.1⟩ ∧ (s'.2.2.1.length : Int) + s'.2.2.2 ≤ 3) ∧ s'.2.2.2.toNat < s.2.2.2.toNat) ∨ ∃ t, o = .ret (.go t) ∧ (Rdr (m + 6) ⟨t.1, t.2.1⟩ ∧ t.2.2.length ≤ 3)) := by
 obtain ⟨b, p, l, k⟩ := s
 obtain ⟨k0, k1, R, hl⟩ := hs
 simp only at k0 k1 R hl
 unfold F_spec_l20Bare_l14
 refine Ex.cond (fun hk => ?_) fun hk => ?_
 · have hk : 0 < k := of_decide_eq_true hk
   refine Ex.bind (word_d R (by omega)) fun v ⟨R1, a1, b1⟩ => ?_
   refine Ex.grd ⟨by simp only [List.length_cons, List.length_nil]; omega, by simp only [List.length_cons, List.length_nil]; omega⟩ (Ex.ret (.inl ⟨_, rfl, ⟨?_, ?_, ?_, ?_⟩, ?_⟩))
   all_goals simp only [w64_in (z := k - 1) (by omega) (by omega), List.length_append, List.length_cons, List.length_nil]
   · omega
   · omega
   · exact R1.up (by omega)
   · omega
   · omega
 · have hk : ¬ 0 < k := of_decide_eq_false hk
   exact Ex.ret (.inr ⟨_, rfl, R.up (by omega), by show l.length ≤ 3; omega⟩)
theorem words_d {m k : Int} {r : Dl20Rd} (R : Rdr m r) (h0 : 0 ≤ m) (hm : m ≤ 900000) (k0 : 0 ≤ k) (k1 : k ≤ 3) : Ex (Option.bind (iter F_spec_l20Bare_l14 (r.b, r.p, [], k)) LO.val) (fun j => ∃ t, j = .go t ∧ (Rdr (m + 6) ⟨t.1, t.2.1⟩ ∧ t.2.2.length ≤ 3)) :=
 Ex.loopv (fun s : List Int × Int × List Int × Int => 0 ≤ s.2.2.2 ∧ s.2.2.2 ≤ 3 ∧ Rdr (m + 2 * (3 - s.2.2.2)) ⟨s.1, s.2.1⟩ ∧ (s.2.2.1.length : Int) + s.2.2.2 ≤ 3) (fun s => s.2.2.2.toNat) (fun t : List Int × Int × List Int => Rdr (m + 6) ⟨t.1, t.2.1⟩ ∧ t.2.2.length ≤ 3) ⟨k0, k1, R.up (by simp only; omega), by simp only [List.length_nil]; omega⟩ (words_loop hm h0)
theorem words_d' {m k : Int} {r : Dl20Rd} (R : Rdr m r) (h0 : 0 ≤ m) (hm : m ≤ 900000) (k0 : 0 ≤ k) (k1 : k ≤ 3) : Ex (Option.bind (iter F_spec_l20Bare_l11 (r.b, r.p, [], k)) LO.val) (fun j => ∃ t, j = .go t ∧ (Rdr (m + 6) ⟨t.1, t.2.1⟩ ∧ t.2.2.length ≤ 3)) := words_d R h0 hm k0 k1
structure Tiny (b : DBare) : Prop where
 regs : b.C.Regs.length ≤ 4
 mem : b.Mem.length ≤ 64
 i : b.In.length ≤ 31
 o : b.Out.length ≤ 31
theorem Tiny.small {b : DBare} (h : Tiny b) : SmallB b := ⟨⟨by have := h.regs; omega⟩, by have := h.mem; omega, by have := h.i; omega, by have := h.o; omega⟩
theorem bare_d {m n : Int} {r : Dl20Rd} (R : Rdr m r) (h0 : 0 ≤ m) (hm : m ≤ 700000) : Ex (F_spec_l20Bare r n) (fun v => Rdr (m + 3000) v.1 ∧ Tiny v.2 ∧ (n ≤ 0 → v.2.Mem.length = 64)) := by
 unfold F_spec_l20Bare
 refine Ex.bind (core_d R h0 (by omega)) fun v1 ⟨R1, c1⟩ => ?_
 refine Ex.bind (code_d R1 (by omega) (by omega)) fun v2 ⟨R2, c2⟩ => ?_
 refine Ex.join (Ex.bind (pick_d R2 (by omega) (by omega)) fun v13 ⟨R13, a13, b13⟩ => words_d R13 (by omega) (by omega) a13 (by omega)) fun s3 ⟨R3, c3⟩ => ?_
 unfold F_spec_l20Bare_j3
 refine Ex.join (Ex.bind (pick_d R3 (by omega) (by omega)) fun v10 ⟨R10, a10, b10⟩ => words_d' R10 (by omega) (by omega) a10 (by omega)) fun s4 ⟨R4, c4⟩ => ?_
 unfold F_spec_l20Bare_j4
 refine Ex.join (P := fun s5 : List Int × Int × Int × Int × Int × Bool × Int × Int × Int × Bool × Bool × Bool × Bool × List Int × Int × List Int × List Int => Rdr (m + 3000) ⟨s5.2.2.2.2.2.2.2.2.2.2.2.2.2.1, s5.2.2.2.2.2.2.2.2.2.2.2.2.2.2.1⟩ ∧ s5.1.length ≤ 4 ∧ s5.2.2.2.2.2.2.2.2.2.2.2.2.2.2.2.1.length ≤ 64 ∧ s5.2.2.2.2.2.2.2.2.2.2.2.2.2.2.2.2.length ≤ 31 ∧ (n ≤ 0 → s5.2.2.2.2.2.2.2.2.2.2.2.2.2.2.2.1.length = 64)) ?_ fun s5 ⟨h5, g1, g2, g3, g4⟩ => Ex.ret ⟨h5, ⟨g1, g2, g3, by show s4.2.2.length ≤ 31; omega⟩, g4⟩
 have c2' : v2.2.length ≤ 64 := by omega
 refine Ex.bind (odd_d0 R4 (by omega)) fun v6 ⟨R6, o6⟩ => ?_
 refine Ex.cond (fun hv => ?_) fun _ => Ex.ret ⟨_, rfl, R6.up (by omega), c1, c2', by simp only; omega, fun _ => c2⟩
 refine Ex.bind (pick_d R6 (by omega) (by omega)) fun v7 ⟨R7, a7, b7⟩ => ?_
 refine Ex.cond (fun _ => ?_) fun _ => ?_
 · exact Ex.bind (core_d R7 (by omega) (by omega)) fun v8 ⟨R8, c8⟩ => Ex.ret ⟨_, rfl, R8.up (by omega), c8, c2', by simp only; omega, fun hn => by rw [o6 hn] at hv; cases hv⟩
 · refine Ex.cond (fun _ => ?_) fun _ => ?_
   · exact Ex.bind (mem_d R7 (by omega) (by omega)) fun v8 ⟨R8, c8, _⟩ => Ex.ret ⟨_, rfl, R8.up (by omega), c1, c8, by simp only; omega, fun hn => by rw [o6 hn] at hv; cases hv⟩
   · exact Ex.ret ⟨_, rfl, R7.up (by omega), c1, c2', by simp, fun hn => by rw [o6 hn] at hv; cases hv⟩
end Go.Proofs.Ytlikfpmbcdlnjaa
