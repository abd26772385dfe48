/- Structs and slices that are written out. No program is named here. -/
import Derived.Test.YtmjphjphgjmojaaZE
namespace Go.Proofs.Ytmjphjphgjmojaa
set_option linter.all false
open Go.RowKit
section
variable {P : Program} {Φ : Fz} {n : Nat} {β : Spots} {env : List AV} {H : Heap} {a : Act} {w : World} {K : AV → Heap → Nat → Prop}
def Along {α γ : Type} (R : α → γ → Prop) : List α → List γ → Prop
 | [], qs => qs = []
 | p :: ps, qs => ∃ q qs', qs = q :: qs' ∧ R p q ∧ Along R ps qs'
theorem places_run : ∀ (fs : List Field), fs.all (fun f => (P.info? f.type).isSome) = true →
 (fs.mapM fun f => do pure (f.offset, ← sizeOf f.type) : Sem (List (Nat × Nat))).run P w = .ok (fs.map fun f => (f.offset, P.cellsOf f.type)) w
 | [], _ => by simp
 | f :: fs, h => by
  simp only [List.all_cons, Bool.and_eq_true] at h
  obtain ⟨inf, hi⟩ := Option.isSome_iff_exists.1 h.1
  have ih := places_run fs h.2
  simp only [List.mapM_cons, Sem.run_bind, sizeOf, typeInfo, run_program, Result.andThen_ok, hi, Sem.run_pure] at ih ⊢
  rw [ih]
  simp [Program.cellsOf, hi]
theorem places_run' (fs : Array Field) (h : fs.toList.all (fun f => (P.info? f.type).isSome) = true) :
 (fs.mapM fun f => do pure (f.offset, ← sizeOf f.type) : Sem (Array (Nat × Nat))).run P w = .ok (fs.map fun f => (f.offset, P.cellsOf f.type)) w := by
 obtain ⟨l⟩ := fs
 rw [List.mapM_toArray, Sem.run_map, places_run l h]
 simp
theorem set_sound {xs : List AV} : ∀ (vs : List Value) (ys : List AV) (j off : Nat) (cs : List AV) (cur : Array Value), RVs Φ n β ys vs → RVs Φ n β cs cur.toList →
 RVs Φ n β (setCells cs (off + j) ys) ((vs.zipIdx j).foldl (fun c (x : Value × Nat) => c.setIfInBounds (off + x.2) x.1) cur).toList
 | [], ys, j, off, cs, cur, h, hc => by
  cases ys with
  | nil => simpa [setCells] using hc
  | cons y ys => simp [RVs] at h
 | v :: vs, ys, j, off, cs, cur, h, hc => by
  cases ys with
  | nil => simp [RVs] at h
  | cons y ys =>
   simp only [RVs] at h
   obtain ⟨v', vs', e, h1, h2, h3⟩ := h
   cases e
   simp only [List.zipIdx_cons, List.foldl_cons, setCells]
   have := set_sound (xs := xs) vs ys (j + 1) off (cs.set (off + j) y) (cur.setIfInBounds (off + j) v) h3 (by simpa using hc.set (off + j) h2 h1)
   simpa [Nat.add_assoc] using this
theorem fill_sound (place : Nat → Option (Nat × Nat)) (he : Env Φ n β env a) : ∀ (ps : List (Nat × Operand)) (qs : List (Nat × Nat × Opd)) (cs out : List AV) (cur : Array Value),
 Along (fun (p : Nat × Operand) (q : Nat × Nat × Opd) => place p.1 = some (q.1, q.2.1) ∧ lowOpd p.2 = some q.2.2) ps qs → RVs Φ n β cs cur.toList → fillParts env cs qs = some out →
 ∃ cur', Instr.fill place cur (ps.map fun p => (p.1, a.eval p.2)) = some cur' ∧ RVs Φ n β out cur'.toList ∧ cur'.size = cur.size
 | [], qs, cs, out, cur, h, hc, hf => by
  simp only [Along] at h
  subst h
  simp only [fillParts, Option.some.injEq] at hf
  subst hf
  exact ⟨cur, rfl, hc, rfl⟩
 | (i, x) :: ps, qs, cs, out, cur, h, hc, hf => by
  simp only [Along] at h
  obtain ⟨q, qs, rfl, h1, h2⟩ := h
  obtain ⟨off, sz, y⟩ := q
  obtain ⟨e1, e2⟩ := h1
  simp only [fillParts] at hf
  split at hf
  · rename_i ys hy
    split at hf
    · rename_i hb
      have hv := cells_sound hy (lowOpd_sound he e2)
      have hl := hv.length
      have hlc := hc.length
      simp only [Array.length_toList] at hl hlc
      have hs := set_sound (xs := []) (a.eval x).cells.toList ys 0 off cs cur hv hc
      simp only [Nat.add_zero] at hs
      obtain ⟨cur', r1, r2, r3⟩ := fill_sound place he ps qs _ out _ h2 hs hf
      refine ⟨cur', ?_, r2, ?_⟩
      · simp only [List.map_cons, Instr.fill]
        simp only at e1
        rw [e1]
        simp only
        rw [if_neg (by simp; omega)]
        have : ((a.eval x).cells.zipIdx.foldl (fun cs (x : Value × Nat) => cs.setIfInBounds (off + x.2) x.1) cur) = ((a.eval x).cells.toList.zipIdx 0).foldl (fun c (x : Value × Nat) => c.setIfInBounds (off + x.2) x.1) cur := by
         rw [← Array.foldl_toList]; simp
        rw [← r1, ← this]
      · rw [r3]
        have : ∀ (l : List (Value × Nat)) (c : Array Value), (l.foldl (fun c (x : Value × Nat) => c.setIfInBounds (off + x.2) x.1) c).size = c.size := by
         intro l
         induction l with
         | nil => intro c; rfl
         | cons x l ih => intro c; simp [ih]
        exact this _ _
    · cases hf
  · cases hf
theorem lowParts_sound (fs : Array Field) : ∀ (ps : List (Nat × Operand)) (qs : List (Nat × Nat × Opd)), lowParts P fs ps = some qs →
 Along (fun (p : Nat × Operand) (q : Nat × Nat × Opd) => (fs.map fun f => (f.offset, P.cellsOf f.type))[p.1]? = some (q.1, q.2.1) ∧ lowOpd p.2 = some q.2.2) ps qs
 | [], qs, h => by simp only [lowParts, Option.some.injEq] at h; subst h; simp [Along]
 | (i, x) :: ps, qs, h => by
  simp only [lowParts] at h
  split at h
  · rename_i f y ys h1 h2 h3
    obtain ⟨inf, hi, rfl⟩ := Option.map_eq_some_iff.1 h
    exact ⟨_, _, rfl, ⟨by simp [h1, Program.cellsOf, hi], h2⟩, lowParts_sound fs ps ys h3⟩
  · cases h
theorem do_bld {o : Oper} {t : TypeId} {ps : Array (Nat × Operand)} {qs : List (Nat × Nat × Opd)} {fs : Array Field} {z : List AV} (ho : o.op = .build t ps) (ht : P.underlying t = some (.struct fs)) (hz : Go.Proofs.Ytmjphjphgjmojaa.zeroCells P t = some z)
 (hall : fs.toList.all (fun f => (P.info? f.type).isSome) = true) (hp : lowParts P fs ps.toList = some qs)
 (he : Env Φ n β env a) (hH : RH Φ n β H w) (hB : Keep Φ w) (h : xop P env H n K (.bld z qs)) : QDone P o a Φ n β H K w := by
 obtain ⟨inf, v, g1, g2, g3⟩ := zeroCells_sound hz
 have hv := lowVals_sound (Φ := Φ) (n := n) (β := β) g3
 simp only [xop] at h
 split at h
 · rename_i cs hcs
   obtain ⟨cur, r1, r2, _⟩ := fill_sound (fun i => (fs.map fun f => (f.offset, P.cellsOf f.type))[i]?) he ps.toList qs z cs v.cells (lowParts_sound fs _ _ hp) hv hcs
   refine done_same (v := .agg cur) (fun w' _ => ?_) (by simp only [RV]; exact ⟨_, rfl, r2⟩) h
   have hm : (ps.map fun (x : Nat × Operand) => (x.1, a.eval x.2)).toList = ps.toList.map fun p => (p.1, a.eval p.2) := by simp
   simp only [execOp, ho, Instr.build, Sem.run_bind, zeroValue, typeInfo, run_program, Result.andThen_ok, g1, g2, Sem.run_pure, run_underlying ht, places_run' fs hall, hm, r1]
 · exact h.elim
theorem lowElems_sound (sz : Nat) : ∀ (ps : List (Nat × Operand)) (qs : List (Nat × Nat × Opd)), lowElems sz ps = some qs →
 Along (fun (p : Nat × Operand) (q : Nat × Nat × Opd) => some (p.1 * sz, sz) = some (q.1, q.2.1) ∧ lowOpd p.2 = some q.2.2) ps qs
 | [], qs, h => by simp only [lowElems, Option.some.injEq] at h; subst h; simp [Along]
 | (i, x) :: ps, qs, h => by
  simp only [lowElems] at h
  split at h
  · rename_i y ys h2 h3
    simp only [Option.some.injEq] at h
    subst h
    exact ⟨_, _, rfl, ⟨rfl, h2⟩, lowElems_sound sz ps ys h3⟩
  · cases h
theorem do_bsl {o : Oper} {t e : TypeId} {m : Nat} {ps : Array (Nat × Operand)} {qs : List (Nat × Nat × Opd)} {z : List AV} {inf : TypeInfo} (ho : o.op = .buildSlice t m ps) (ht : P.underlying t = some (.slice e)) (hi : P.info? e = some inf)
 (hz : Go.Proofs.Ytmjphjphgjmojaa.zeroCells P e = some z) (hsz : m * inf.size ≤ 2 ^ 24) (hzl : z.length = inf.size) (hpos : 0 < inf.size) (hp : lowElems inf.size ps.toList = some qs)
 (he : Env Φ n β env a) (hH : RH Φ n β H w) (hB : Keep Φ w) (h : xop P env H n K (.bsl e inf.size m z qs)) : Done P o a Φ n β K w := by
 obtain ⟨inf', v, g1, g2, g3⟩ := zeroCells_sound hz
 rw [hi] at g1; cases g1
 have hv := lowVals_sound (Φ := Φ) (n := n) (β := β) g3
 have hl := hv.length
 simp only [Array.length_toList] at hl
 simp only [xop] at h
 split at h
 · rename_i cs hcs
   have hrep := repeat_sound hv m
   obtain ⟨cur, r1, r2, r3⟩ := fill_sound (fun i => some (i * inf.size, inf.size)) he ps.toList qs (repeatCells z m) cs _ (lowElems_sound inf.size _ _ hp) hrep hcs
   have hl2 := r2.length
   simp only [Array.length_toList] at hl2
   have hm : (ps.map fun (x : Nat × Operand) => (x.1, a.eval x.2)).toList = ps.toList.map fun p => (p.1, a.eval p.2) := by simp
   have hcur : cur.size = m * inf.size := by rw [r3]; simp [hl, hzl]
   refine done_alloc hH hB (cur := cur) (cs := cs) (v := .slice (some ⟨w.heap.size, 0, none⟩) m m) (x := .sref n [] 0 m inf.size) ?_ (by omega) r2.take_length ?_ h
   · have hne : ¬ (m * inf.size > 2 ^ 24) := by omega
     have hsz2 : (Array.range (m * v.cells.size)).map (v.cells[· % v.cells.size]!) = (Array.range (m * inf.size)).map (v.cells[· % v.cells.size]!) := by rw [hl, hzl]
     rw [hsz2] at r1
     by_cases hm0 : m * inf.size = 0
     · have : m = 0 := by
        rcases Nat.mul_eq_zero.1 hm0 with h | h <;> omega
       subst this
       simp only [Nat.zero_mul, Array.range_zero', Array.map_empty] at r1
       simp [execOp, ho, Instr.buildSlice, run_underlying ht, sizeOf, typeInfo, hi, r1, newRow, Array.range_zero']
     · simp only [execOp, ho, Instr.buildSlice, Sem.run_bind, run_underlying ht, Result.andThen_ok, sizeOf, typeInfo, run_program, hi, Sem.run_pure, if_neg hne, if_neg hm0, zeroValue, g2, hm, r1, newRow, run_newObj, Sem.run_ite]
   · simp only [RV]
     have : m ≤ 2 ^ 24 := Nat.le_trans (Nat.le_mul_of_pos_right m hpos) hsz
     exact ⟨Nat.lt_succ_self _, _, _, rfl, Nat.le_refl _, by unfold maxLen; omega, .inr ⟨by simp, by simp, by simp [hcur]⟩⟩
 · exact h.elim
end
end Go.Proofs.Ytmjphjphgjmojaa
