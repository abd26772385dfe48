/- The abstract machine's operations are the model's. No program is named here. -/
import Derived.Test.YtmjphjphgjmojaaZC
namespace Go.Proofs.Ytmjphjphgjmojaa
set_option linter.all false
open Go.RowKit
section
variable {P : Program} {Φ : Fz} {n : Nat} {β : Spots} {env : List AV} {H : Heap} {a : Act} {w : World} {K : AV → Heap → Nat → Prop}
theorem zeroCells_sound {t : TypeId} {z : List AV} (h : Go.Proofs.Ytmjphjphgjmojaa.zeroCells P t = some z) : ∃ inf v, P.info? t = some inf ∧ inf.zero = some v ∧ lowVals v.cells.toList = some z := by
 unfold Go.Proofs.Ytmjphjphgjmojaa.zeroCells at h
 obtain ⟨v, h1, h2⟩ := Option.bind_eq_some_iff.1 h
 obtain ⟨inf, h3, h4⟩ := Option.bind_eq_some_iff.1 h1
 exact ⟨inf, v, h3, h4, h2⟩
theorem RVs.take_length {cs : List AV} {vs : List Value} (h : RVs Φ n β cs vs) : RVs Φ n β cs (vs.take cs.length) := by
 rw [List.take_of_length_le (by rw [h.length]; omega)]; exact h
theorem do_mv {o : Oper} {x : Operand} {y : Opd} (ho : o.op = .move x ∨ o.op = .assign x) (hx : lowOpd x = some y) (he : Env Φ n β env a) (hH : RH Φ n β H w) (hB : Keep Φ w)
 (h : xop P env H n K (.mv y)) : QDone P o a Φ n β H K w := by
 refine done_same (v := a.eval x) (fun w' _ => ?_) (lowOpd_sound he hx) h
 rcases ho with ho | ho <;> simp [execOp, ho]
theorem do_pick {o : Oper} {c x y : Operand} {c' x' y' : Opd} (ho : o.op = .pick c x y) (hc : lowOpd c = some c') (hx : lowOpd x = some x') (hy : lowOpd y = some y') (he : Env Φ n β env a)
 (hH : RH Φ n β H w) (hB : Keep Φ w) (h : xop P env H n K (.pick c' x' y')) : QDone P o a Φ n β H K w := by
 have h0 := lowOpd_sound he hc
 simp only [xop] at h
 split at h
 · rename_i t ht
   rw [ht] at h0
   simp only [RV] at h0
   cases t with
   | true => exact done_same (v := a.eval x) (fun w' _ => by simp [execOp, ho, h0, asBool]) (lowOpd_sound he hx) (by simpa using h)
   | false => exact done_same (v := a.eval y) (fun w' _ => by simp [execOp, ho, h0, asBool]) (lowOpd_sound he hy) (by simpa using h)
 · exact h.elim
theorem do_box {o : Oper} {e : TypeId} {x : Operand} {y : Opd} (ho : o.op = .box e x) (hx : lowOpd x = some y) (he : Env Φ n β env a) (hH : RH Φ n β H w) (hB : Keep Φ w)
 (h : xop P env H n K (.box e y)) : Done P o a Φ n β K w := by
 simp only [xop] at h
 split at h
 · rename_i cs hcs
   have hv := cells_sound hcs (lowOpd_sound he hx)
   have hl := hv.length
   simp only [Array.length_toList] at hl
   refine done_alloc hH hB (cur := (a.eval x).cells) (v := .pointer (some ⟨w.heap.size, 0, none⟩)) (x := .ptr n [] 0) ?_ (by omega) hv.take_length ?_ h
   · simp [execOp, ho, Instr.box, newVar, newRow]
   · simp [RV]
 · exact h.elim
theorem do_fresh {o : Oper} {e : TypeId} {z : List AV} (ho : o.op = .alloc e) (hz : Go.Proofs.Ytmjphjphgjmojaa.zeroCells P e = some z) (hH : RH Φ n β H w) (hB : Keep Φ w)
 (h : xop P env H n K (.fresh e z)) : Done P o a Φ n β K w := by
 simp only [xop] at h
 obtain ⟨inf, v, h1, h2, h3⟩ := zeroCells_sound hz
 have hv := lowVals_sound (Φ := Φ) (n := n) (β := β) h3
 have hl := hv.length
 simp only [Array.length_toList] at hl
 refine done_alloc hH hB (cur := v.cells) (v := .pointer (some ⟨w.heap.size, 0, none⟩)) (x := .ptr n [] 0) ?_ (by omega) hv.take_length ?_ h
 · simp [execOp, ho, Instr.alloc, newVar, newRow, zeroValue, typeInfo, h1, h2]
 · simp [RV]
theorem do_load {o : Oper} {t : TypeId} {x : Operand} {y : Opd} {ag : Bool} {inf : TypeInfo} (ho : o.op = .load t x) (hag : aggB P t = some ag) (hi : P.info? t = some inf) (hx : lowOpd x = some y)
 (he : Env Φ n β env a) (hH : RH Φ n β H w) (hB : Keep Φ w) (h : xop P env H n K (.load ag inf.size y)) : QDone P o a Φ n β H K w := by
 have h0 := lowOpd_sound he hx
 simp only [xop] at h
 split at h
 · rename_i r π p hp
   rw [hp] at h0
   simp only [RV] at h0
   split at h
   · rename_i t' hr
     obtain ⟨h1, h2, h3⟩ := h
     obtain ⟨v, hv1, hv2⟩ := pick_sound (cs := refer r π 0 t'.cs) (q := ⟨(β r π).b, 0, none⟩) (o := p) hag hi rfl (by rw [refer_length]; exact h1) h2 (fun j hj => by
      obtain ⟨v, e1, e2, e3, _⟩ := cell_own hH hr j (by rw [refer_length] at hj; exact hj)
      exact ⟨v, by rw [addr_add, Nat.zero_add]; exact e1, e2, e3⟩)
     rw [addr_add, Nat.zero_add] at hv1
     exact done_same (v := v) (fun w' hw' => by simp [execOp, ho, h0.2.2, hv1 w' hw']) hv2 h3
   · exact h.elim
 · rename_i cs p hp
   rw [hp] at h0
   simp only [RV] at h0
   obtain ⟨h1, h2, h3⟩ := h
   obtain ⟨s, q, vs, h4, h5, h6, h7⟩ := h0
   by_cases hcs : cs = []
   · subst hcs
     simp only [List.length_nil] at h1
     obtain ⟨u, hu, hue⟩ := Option.map_eq_some_iff.1 hag
     have hm : inf.size = 0 := by omega
     have hp0 : p = 0 := by omega
     cases ag with
     | false => have := h2 rfl; omega
     | true =>
      have : ∀ w', (isAgg t).run P w' = .ok true w' := fun w' => by
       unfold isAgg
       simp only [Sem.run_bind, run_underlying hu, Result.andThen_ok]
       cases u <;> simp_all
      refine done_same (v := .agg #[]) (fun w' _ => ?_) ?_ h3
      · simp [execOp, ho, h4, Instr.loadAt, Instr.sureAddr, loadVar, this, sizeOf, typeInfo, hi, hm, loadCells, loadCellsFrom]
      · simp [pickCells, RV, RVs]
   · have hpos : 0 < cs.length := by cases cs <;> simp_all
     obtain ⟨q0, _, rfl, _⟩ := cell_bor hB h5 h6 0 hpos
     obtain ⟨v, hv1, hv2⟩ := pick_sound (q := q0) (o := p) hag hi rfl h1 h2 (fun j hj => by
      obtain ⟨q1, v, e0, e1, e2, e3⟩ := cell_bor hB h5 h6 j hj
      cases e0
      exact ⟨v, e1, e2, e3⟩)
     rw [← h7 q0 rfl] at hv1
     exact done_same (v := v) (fun w' hw' => by simp [execOp, ho, h4, hv1 w' hw']) hv2 h3
 · exact h.elim
theorem min_max (k : IntKind) : k.min ≤ 0 ∧ 0 ≤ k.max := by cases k <;> simp [IntKind.min, IntKind.max, IntKind.signed, IntKind.bits]
theorem tmod_fits {k : IntKind} {a b : Int} (ha : k.min ≤ a ∧ a ≤ k.max) : k.min ≤ a.tmod b ∧ a.tmod b ≤ k.max := by
 have hm := min_max k
 have := Int.natAbs_tmod a b
 have h2 : a.natAbs % b.natAbs ≤ a.natAbs := Nat.mod_le _ _
 rcases Int.le_total 0 a with h | h
 · have h3 := Int.tmod_nonneg b h
   omega
 · have h3 : a.tmod b ≤ 0 := by
    have := Int.tmod_nonneg b (show 0 ≤ -a by omega)
    rw [Int.neg_tmod] at this
    omega
   omega
theorem do_bin {o : Oper} {op : BinOp} {t t' : TypeId} {x y : Operand} {x' y' : Opd} (ho : o.op = .binOp op t x y t') (hx : lowOpd x = some x') (hy : lowOpd y = some y')
 (he : Env Φ n β env a) (hH : RH Φ n β H w) (hB : Keep Φ w) (h : xop P env H n K (.bin op x' y')) : QDone P o a Φ n β H K w := by
 have h0 := lowOpd_sound he hx
 have h1 := lowOpd_sound he hy
 simp only [xop] at h
 split at h
 · rename_i k z k' z' e1 e2
   rw [e1] at h0
   rw [e2] at h1
   simp only [RV] at h0 h1
   obtain ⟨rfl, h⟩ := h
   have hdec : (z == z') = decide (z = z') := by rw [Bool.eq_iff_iff]; simp
   have hg : ∀ w', (eqGuard op t x y (.int k z) (.int k z')).run P w' = .ok () w' := fun w' => by
    unfold eqGuard; cases op <;> simp
   cases op <;> simp only [xbin] at h
   case add => exact done_same (v := .int k (k.wrap (z + z'))) (fun w' _ => by simp [execOp, ho, h0.1, h1.1, hg, binOp, Op.intArith]) (by simp [RV, wrap_within]) h
   case sub => exact done_same (v := .int k (k.wrap (z - z'))) (fun w' _ => by simp [execOp, ho, h0.1, h1.1, hg, binOp, Op.intArith]) (by simp [RV, wrap_within]) h
   case mul => exact done_same (v := .int k (k.wrap (z * z'))) (fun w' _ => by simp [execOp, ho, h0.1, h1.1, hg, binOp, Op.intArith]) (by simp [RV, wrap_within]) h
   case and => exact done_same (v := .int k (bits .and k z z')) (fun w' _ => by simp [execOp, ho, h0.1, h1.1, hg, binOp_and, intBits_and]) (by simp [RV, bits_within]) h
   case or => exact done_same (v := .int k (bits .or k z z')) (fun w' _ => by simp [execOp, ho, h0.1, h1.1, hg, binOp_or, intBits_or]) (by simp [RV, bits_within]) h
   case xor => exact done_same (v := .int k (bits .xor k z z')) (fun w' _ => by simp [execOp, ho, h0.1, h1.1, hg, binOp_xor, intBits_xor]) (by simp [RV, bits_within]) h
   case andNot => exact done_same (v := .int k (bits .andNot k z z')) (fun w' _ => by simp [execOp, ho, h0.1, h1.1, hg, binOp_andNot, intBits_andNot]) (by simp [RV, bits_within]) h
   case quo => exact done_same (v := .int k (k.wrap (z.tdiv z'))) (fun w' _ => by simp [execOp, ho, h0.1, h1.1, hg, binOp, Op.intDiv, h.1]) (by simp [RV, wrap_within]) h.2
   case rem => exact done_same (v := .int k (z.tmod z')) (fun w' _ => by simp [execOp, ho, h0.1, h1.1, hg, binOp, Op.intDiv, h.1]) (by simp only [RV]; exact ⟨trivial, tmod_fits h0.2⟩) h.2
   case eql => exact done_same (v := .bool (decide (z = z'))) (fun w' _ => by simp [execOp, ho, h0.1, h1.1, hg, binOp, Op.intCmp, hdec]) (by simp [RV]) h
   case neq => exact done_same (v := .bool (!decide (z = z'))) (fun w' _ => by simp [execOp, ho, h0.1, h1.1, hg, binOp, Op.intCmp, bne, hdec]) (by simp [RV]) h
   case lss => exact done_same (v := .bool (decide (z < z'))) (fun w' _ => by simp [execOp, ho, h0.1, h1.1, hg, binOp, Op.intCmp]) (by simp [RV]) h
   case leq => exact done_same (v := .bool (decide (z ≤ z'))) (fun w' _ => by simp [execOp, ho, h0.1, h1.1, hg, binOp, Op.intCmp]) (by simp [RV]) h
   case gtr => exact done_same (v := .bool (decide (z' < z))) (fun w' _ => by simp [execOp, ho, h0.1, h1.1, hg, binOp, Op.intCmp]) (by simp [RV]) h
   case geq => exact done_same (v := .bool (decide (z' ≤ z))) (fun w' _ => by simp [execOp, ho, h0.1, h1.1, hg, binOp, Op.intCmp]) (by simp [RV]) h
 · exact h.elim
theorem run_equal_bool {t : TypeId} (hu : P.underlying t = some .bool) (b b' : Bool) : (Op.equal t (.bool b) (.bool b')).run P w = .ok (b == b') w := by
 show (Op.equalIn (9999 + 1) t (.bool b) (.bool b')).run P w = _
 rw [Op.equalIn]
 simp [run_underlying hu]
theorem do_binb {o : Oper} {ng : Bool} {op : BinOp} {t t' : TypeId} {x y : Operand} {x' y' : Opd} (ho : o.op = .binOp op t x y t') (hu : P.underlying t = some .bool) (hop : op = match ng with | true => .neq | false => .eql)
 (hx : lowOpd x = some x') (hy : lowOpd y = some y') (he : Env Φ n β env a) (hH : RH Φ n β H w) (hB : Keep Φ w) (h : xop P env H n K (.binb ng x' y')) : QDone P o a Φ n β H K w := by
 have h0 := lowOpd_sound he hx
 have h1 := lowOpd_sound he hy
 simp only [xop] at h
 split at h
 · rename_i b b' e1 e2
   rw [e1] at h0
   rw [e2] at h1
   simp only [RV] at h0 h1
   have hq := fun w' => run_equal_bool (w := w') hu b b'
   subst hop
   cases ng
   · have hg : ∀ w', (eqGuard .eql t x y (.bool b) (.bool b')).run P w' = .ok () w' := fun w' => by unfold eqGuard; simp
     have hb : ∀ w', (binOp .eql t (.bool b) (.bool b')).run P w' = .ok (.bool (b == b')) w' := fun w' => by
      show (do pure (Value.bool (← Op.equal t (.bool b) (.bool b')))).run P w' = _
      simp only [Sem.run_bind, hq, Result.andThen_ok, Sem.run_pure]
     exact done_same (v := .bool (b == b')) (fun w' _ => by simp only [execOp, ho, h0, h1, Sem.run_bind, hg, hb, Result.andThen_ok, Sem.run_pure]) (by simp [RV]) h
   · have hg : ∀ w', (eqGuard .neq t x y (.bool b) (.bool b')).run P w' = .ok () w' := fun w' => by unfold eqGuard; simp
     have hb : ∀ w', (binOp .neq t (.bool b) (.bool b')).run P w' = .ok (.bool (!(b == b'))) w' := fun w' => by
      show (do pure (Value.bool (!(← Op.equal t (.bool b) (.bool b'))))).run P w' = _
      simp only [Sem.run_bind, hq, Result.andThen_ok, Sem.run_pure]
     exact done_same (v := .bool (!(b == b'))) (fun w' _ => by simp only [execOp, ho, h0, h1, Sem.run_bind, hg, hb, Result.andThen_ok, Sem.run_pure]) (by simp [RV]) h
 · exact h.elim
theorem do_un {o : Oper} {op : UnOp} {t : TypeId} {x : Operand} {x' : Opd} (ho : o.op = .unOp op t x) (hx : lowOpd x = some x')
 (he : Env Φ n β env a) (hH : RH Φ n β H w) (hB : Keep Φ w) (h : xop P env H n K (.un op x')) : QDone P o a Φ n β H K w := by
 have h0 := lowOpd_sound he hx
 simp only [xop, xun] at h
 split at h
 · rename_i b e1
   rw [e1] at h0
   simp only [RV] at h0
   exact done_same (v := .bool (!b)) (fun w' _ => by simp [execOp, ho, h0, Op.unary]) (by simp [RV]) h
 · rename_i k z e1
   rw [e1] at h0
   simp only [RV] at h0
   exact done_same (v := .int k (k.wrap (0 - z))) (fun w' _ => by simp [execOp, ho, h0.1, Op.unary, Op.intArith]) (by simp [RV, wrap_within]) h
 · exact h.elim
theorem do_fadr {o : Oper} {t : TypeId} {x : Operand} {x' : Opd} {i : Nat} {fs : Array Field} {f : Field} {inf : TypeInfo} (ho : o.op = .fieldAddr t x i) (ht : P.underlying t = some (.struct fs)) (hf : fs[i]? = some f)
 (hi : P.info? f.type = some inf) (hz : ¬ inf.size = 0) (hx : lowOpd x = some x')
 (he : Env Φ n β env a) (hH : RH Φ n β H w) (hB : Keep Φ w) (h : xop P env H n K (.fadr f.offset x')) : QDone P o a Φ n β H K w := by
 have h0 := lowOpd_sound he hx
 simp only [xop] at h
 split at h
 · rename_i r π p e1
   rw [e1] at h0
   simp only [RV] at h0
   exact done_same (v := .pointer (some ⟨(β r π).b, p + f.offset, none⟩)) (fun w' _ => by simp [execOp, ho, h0.2.2, Instr.fieldAt, run_underlying ht, hf, Instr.sureAddr, fieldPlace, sizeOf, typeInfo, hi, hz, addr_add]) (by simp [RV, h0.1, h0.2.1]) h
 · rename_i cs p e1
   rw [e1] at h0
   simp only [RV] at h0
   obtain ⟨s, q, vs, h4, h5, h6, h7⟩ := h0
   refine done_same (v := .pointer (some (q.add f.offset))) (fun w' _ => by simp [execOp, ho, h4, Instr.fieldAt, run_underlying ht, hf, Instr.sureAddr, fieldPlace, sizeOf, typeInfo, hi, hz]) ?_ h
   simp only [RV]
   refine ⟨s, _, vs, rfl, h5, h6, fun q0 hq => ?_⟩
   rw [h7 q0 hq]
   unfold Addr.add
   by_cases h1 : p = 0 <;> by_cases h2 : f.offset = 0 <;> simp [h1, h2, Nat.add_assoc]
 · exact h.elim
theorem do_iadr {o : Oper} {t e : TypeId} {x y : Operand} {x' y' : Opd} {inf : TypeInfo} (ho : o.op = .indexAddr t x y) (ht : P.underlying t = some (.slice e)) (hi : P.info? e = some inf) (hx : lowOpd x = some x') (hy : lowOpd y = some y')
 (he : Env Φ n β env a) (hH : RH Φ n β H w) (hB : Keep Φ w) (h : xop P env H n K (.iadr inf.size x' y')) : QDone P o a Φ n β H K w := by
 have h0 := lowOpd_sound he hx
 have h1 := lowOpd_sound he hy
 simp only [xop] at h
 split at h
 · rename_i r π p m sz' k' z e1 e2
   rw [e1] at h0
   rw [e2] at h1
   simp only [RV] at h0 h1
   obtain ⟨⟨rfl, h2, h3⟩, h4⟩ := h
   obtain ⟨g0, s, cap, g1, g2, g3, g4⟩ := h0
   rcases g4 with ⟨rfl, _⟩ | ⟨g4, rfl, g5⟩
   · omega
   · exact done_same (v := .pointer (some ⟨(β r π).b, p + z.toNat * inf.size, none⟩)) (fun w' _ => by simp [execOp, ho, g1, h1.1, Instr.indexAt, run_underlying ht, asIntOf, h2, h3, sizeOf, typeInfo, hi, addr_add]) (by simp [RV, g0, g4]) h4
 · rename_i m cs k' z e1 e2
   rw [e1] at h0
   rw [e2] at h1
   simp only [RV] at h0 h1
   obtain ⟨⟨h2, h3, h3'⟩, h4⟩ := h
   obtain ⟨s, cap, vs, g1, g2, g3, g4, g5⟩ := h0
   cases s with
   | none =>
    have hvs : vs = [] := by
     rcases g4 with h | ⟨b, o, _, _, _, h, _⟩
     · exact h
     · cases h
    subst hvs
    have := g5.length
    simp only [List.length_nil] at this
    omega
   | some q =>
    refine done_same (v := .pointer (some (q.add (z.toNat * inf.size)))) (fun w' _ => by simp [execOp, ho, g1, h1.1, Instr.indexAt, run_underlying ht, asIntOf, h2, h3, sizeOf, typeInfo, hi]) ?_ h4
    simp only [RV]
    exact ⟨some q, _, vs, rfl, g4, g5, fun q0 hq => by cases hq; rfl⟩
 · exact h.elim
end
end Go.Proofs.Ytmjphjphgjmojaa
