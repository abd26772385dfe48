/- The abstract machine's operations that write or make memory are the model's. No program is named here. -/
import Derived.Test.YtmjphjphgjmojaaZD
namespace Go.Proofs.Ytmjphjphgjmojaa
set_option linter.all false
open Go.RowKit
section
variable {P : Program} {Φ : Fz} {n : Nat} {β : Spots} {env : List AV} {H : Heap} {a : Act} {w : World} {K : AV → Heap → Nat → Prop}
theorem RH.congr {H' : Heap} (h : RH Φ n β H w) (hg : ∀ r π, H'.get r π = H.get r π) : RH Φ n β H' w :=
 ⟨fun r π t hr => h.root r π t (by rw [← hg]; exact hr), fun r π r' π' h1 h2 => h.apart r π r' π' (by rw [← hg]; exact h1) (by rw [← hg]; exact h2)⟩
theorem get_cons_same {H H' : Heap} {r : Nat} {t : Option Root} : ∀ π : List Nat, Heap.get ((r, t) :: H) r π = Heap.get ((r, t) :: H') r π
 | [] => by simp [Heap.get, Heap.get1]
 | i :: π => by simp only [Heap.get]; rw [get_cons_same π]
theorem put_put {H : Heap} {r : Nat} : ∀ {π : List Nat} {t : Root} {c1 c2 : List AV}, H.get r π = some t → ∀ r' π', ((H.put r π c1).put r π c2).get r' π' = (H.put r π c2).get r' π'
 | [], t, c1, c2, h, r', π' => by
  simp only [Heap.get] at h
  simp only [Heap.put, h]
  have e : Heap.get1 ((r, some ⟨t.e, c1⟩) :: H) r = some ⟨t.e, c1⟩ := by simp [Heap.get1]
  simp only [e]
  by_cases hr : r = r'
  · subst hr; exact get_cons_same π'
  · rw [get_cons_ne hr, get_cons_ne hr, get_cons_ne hr]
 | i :: π, t, c1, c2, h, r', π' => by
  simp only [Heap.get] at h
  split at h
  · rename_i tp htp
    cases hc : tp.cs.getD i .unk <;> rw [hc] at h <;> simp only [AV.node, Option.some.injEq, reduceCtorEq] at h
    rename_i e sz m ds
    subst h
    have hi := own_lt hc
    have h1 : H.put r (i :: π) c1 = H.put r π (tp.cs.set i (.own e sz m c1)) := by simp only [Heap.put, htp, hc]
    have h2 : H.put r (i :: π) c2 = H.put r π (tp.cs.set i (.own e sz m c2)) := by simp only [Heap.put, htp, hc]
    have h3 := put_get (cs := tp.cs.set i (.own e sz m c1)) htp
    have h4 : (H.put r π (tp.cs.set i (.own e sz m c1))).put r (i :: π) c2 = (H.put r π (tp.cs.set i (.own e sz m c1))).put r π (tp.cs.set i (.own e sz m c2)) := by
     have e1 : (tp.cs.set i (.own e sz m c1)).getD i .unk = .own e sz m c1 := by rw [getD_set, if_pos ⟨rfl, hi⟩]
     rw [Heap.put]
     simp only [h3, e1, List.set_set]
    rw [h1, h2, h4]
    exact put_put htp r' π'
  · cases h
theorem put_self {H : Heap} {r : Nat} : ∀ {π : List Nat} {t : Root}, H.get r π = some t → ∀ r' π', (H.put r π t.cs).get r' π' = H.get r' π'
 | [], t, h, r', π' => by
  simp only [Heap.get] at h
  simp only [Heap.put, h]
  by_cases hr : r = r'
  · subst hr
    induction π' with
    | nil => simp [Heap.get, Heap.get1, h]
    | cons i π' ih => simp only [Heap.get]; rw [ih]
  · rw [get_cons_ne hr]
 | i :: π, t, h, r', π' => by
  simp only [Heap.get] at h
  split at h
  · rename_i tp htp
    cases hc : tp.cs.getD i .unk <;> rw [hc] at h <;> simp only [AV.node, Option.some.injEq, reduceCtorEq] at h
    rename_i e sz m ds
    subst h
    have hi := own_lt hc
    have hs : tp.cs.set i (.own e sz m ds) = tp.cs := by
     rw [← hc]
     apply List.ext_getElem (by simp)
     intro j h1 h2
     rw [List.getElem_set]
     split
     · rename_i e; subst e; simp [List.getD, hi]
     · rfl
    simp only [Heap.put, htp, hc, hs]
    exact put_self htp r' π'
  · cases h
theorem storeCells_sound {r o : Nat} {π : List Nat} : ∀ (xs : List AV) (vs : List Value) (i : Nat) (t : Root) (H : Heap) (w : World), RH Φ n β H w → Keep Φ w → H.get r π = some t → o + i + xs.length ≤ t.cs.length → RVs Φ n β xs vs →
 ∃ w', (storeCells ⟨(β r π).b, o, none⟩ vs i).run P w = .ok () w' ∧ RH Φ n β (H.put r π (setCells t.cs (o + i) xs)) w' ∧ Keep Φ w' ∧ Below 0 w w'
 | [], vs, i, t, H, w, hH, hB, hr, _, hv => by
  simp only [RVs] at hv
  subst hv
  exact ⟨w, by simp [storeCells], hH.congr fun r' π' => by simp only [setCells]; exact put_self hr r' π', hB, Below.refl _ _⟩
 | x :: xs, vs, i, t, H, w, hH, hB, hr, hl, hv => by
  simp only [RVs] at hv
  obtain ⟨v, vs, rfl, h1, hx, hv⟩ := hv
  simp only [List.length_cons] at hl
  obtain ⟨u, c1, c2, c3, c4⟩ := cell_own hH hr (o + i) (by omega)
  have hst : (store ((⟨(β r π).b, o, none⟩ : Addr).add i) v).run P w = .ok () (w.setCell ⟨(β r π).b, o + i, none⟩ v) := by
   rw [addr_add, run_store P w _ v _ h1, c1]; simp [c4]
  have hH1 := hH.setCell hr (o := o + i) (by omega) hx h1
  have hB1 := hB.setCell (a := ⟨(β r π).b, o + i, none⟩) (hH.own hr (hH.full hr (by omega))).1 v
  obtain ⟨w', r1, r2, r3, r4⟩ := storeCells_sound (r := r) (o := o) (π := π) xs vs (i + 1) ⟨t.e, t.cs.set (o + i) x⟩ _ _ hH1 hB1 (put_get hr) (by simp; omega) hv
  refine ⟨w', by simp [storeCells, hst, r1], ?_, r3, ((Below.refl 0 w).setCell (Nat.zero_le _) _).trans r4⟩
  refine r2.congr fun r' π' => ?_
  simp only [setCells]
  rw [Nat.add_assoc, ← Nat.add_assoc o i 1] at *
  exact (put_put hr r' π').symm
theorem do_store {o : Oper} {t : TypeId} {x y : Operand} {x' y' : Opd} {inf : TypeInfo} (ho : o.op = .store t x y) (hi : P.info? t = some inf) (hx : lowOpd x = some x') (hy : lowOpd y = some y')
 (he : Env Φ n β env a) (hH : RH Φ n β H w) (hB : Keep Φ w) (h : xop P env H n K (.store inf.size x' y')) : Done P o a Φ n β K w := by
 have h0 := lowOpd_sound he hx
 have h1 := lowOpd_sound he hy
 simp only [xop] at h
 split at h
 · rename_i r π p vs e1 e2
   rw [e1] at h0
   simp only [RV] at h0
   have hv := cells_sound e2 h1
   split at h
   · rename_i t' hr
     obtain ⟨h2, h3, h4⟩ := h
     have hl := hv.length
     simp only [Array.length_toList] at hl
     obtain ⟨w', r1, r2, r3, r4⟩ := storeCells_sound (P := P) (o := p) vs (a.eval y).cells.toList 0 t' H w hH hB hr (by omega) hv
     refine ⟨.skip, undef, w', β, .und, _, n, ?_, .inr ⟨rfl, rfl⟩, h4, Nat.le_refl _, fun _ _ => rfl, by simp [RV], r2, r3, r4⟩
     simp [execOp, ho, h0.2.2, Instr.storeAt, Instr.sureAddr, storeVar, sizeOf, typeInfo, hi, hl, h2, r1]
   · exact h.elim
 · exact h.elim
theorem repeat_length (z : List AV) : ∀ m, (repeatCells z m).length = m * z.length
 | 0 => by simp [repeatCells]
 | m + 1 => by simp [repeatCells, repeat_length z m, Nat.succ_mul]; omega
theorem repeat_get (z : List AV) : ∀ m i, i < m * z.length → (repeatCells z m).getD i .unk = z.getD (i % z.length) .unk
 | 0, i, h => by simp at h
 | m + 1, i, h => by
  simp only [repeatCells]
  by_cases hi : i < z.length
  · rw [Nat.mod_eq_of_lt hi]; simp [List.getD, List.getElem?_append_left hi]
  · have : i - z.length < m * z.length := by rw [Nat.succ_mul] at h; omega
    have ih := repeat_get z m (i - z.length) this
    rw [Nat.mod_eq_sub_mod (by omega), ← ih]
    simp only [List.getD]
    rw [List.getElem?_append_right (by omega)]
theorem repeat_sound {z : List AV} {zs : Array Value} (h : RVs Φ n β z zs.toList) (m : Nat) : RVs Φ n β (repeatCells z m) ((Array.range (m * zs.size)).map (zs[· % zs.size]!)).toList := by
 have hl := h.length
 simp only [Array.length_toList] at hl
 refine RVs.of_get (by simp [repeat_length, hl]) fun i hi => ?_
 rw [repeat_length] at hi
 have hz : 0 < z.length := by cases z <;> simp_all
 have hmod : i % z.length < z.length := Nat.mod_lt _ hz
 rw [repeat_get z m i hi]
 have hg := h.get (i % z.length) hmod
 have e : (((Array.range (m * zs.size)).map (zs[· % zs.size]!)).toList).getD i undef = zs.toList.getD (i % z.length) undef := by
  simp [List.getD, hl, show i < m * z.length from hi]
  rw [getElem!_pos zs (i % z.length) (by omega)]
  simp [show i % z.length < zs.size by omega]
 rw [e]; exact hg
theorem do_mk {o : Oper} {t e : TypeId} {x y : Operand} {x' : Opd} {inf : TypeInfo} {z : List AV} (ho : o.op = .makeSlice t x y) (ht : P.underlying t = some (.slice e)) (hi : P.info? e = some inf) (hz : Go.Proofs.Ytmjphjphgjmojaa.zeroCells P e = some z)
 (hzl : z.length = inf.size) (hx : lowOpd x = some x') (hxy : a.eval y = a.eval x)
 (he : Env Φ n β env a) (hH : RH Φ n β H w) (hB : Keep Φ w) (h : xop P env H n K (.mk e inf.size inf.bytes z x')) : Done P o a Φ n β K w := by
 have h0 := lowOpd_sound he hx
 obtain ⟨inf', v, g1, g2, g3⟩ := zeroCells_sound hz
 rw [hi] at g1; cases g1
 have hv := lowVals_sound (Φ := Φ) (n := n) (β := β) g3
 have hl := hv.length
 simp only [Array.length_toList] at hl
 simp only [xop] at h
 split at h
 · rename_i m e1
   rw [e1] at h0
   simp only [RV] at h0
   obtain ⟨⟨h1, h2, h3⟩, h4⟩ := h
   have hr := run_make (P := P) w t e inf v ht hi g2 .i64 .i64 m m h1 (Int.le_refl _) (by rw [Int.mul_comm]; omega) (by omega)
   have hms : (madeCells v.cells (m.toNat * inf.size)) = (Array.range (m.toNat * v.cells.size)).map (v.cells[· % v.cells.size]!) := by
    unfold madeCells; rw [hl, hzl]
   rw [hms] at hr
   have hs := repeat_sound hv m.toNat
   have hsl := hs.length
   refine done_alloc hH hB (cs := repeatCells z m.toNat) (cur := (Array.range (m.toNat * v.cells.size)).map (v.cells[· % v.cells.size]!)) (v := .slice (some ⟨w.heap.size, 0, none⟩) m.toNat m.toNat) (x := .sref n [] 0 m.toNat inf.size) ?_ ?_ hs.take_length ?_ h4
   · simp only [execOp, ho, hxy, h0.1, Sem.run_bind, hr, Result.andThen_ok, Sem.run_pure]
     rfl
   · simpa using Nat.le_of_eq hsl.symm
   · simp only [RV]
     exact ⟨Nat.lt_succ_self _, _, _, rfl, Nat.le_refl _, by unfold maxLen; omega, .inr ⟨by simp, by simp, by simp [hl, hzl]⟩⟩
 · exact h.elim
theorem do_len {o : Oper} {t e : TypeId} {x : Operand} {x' : Opd} (ho : o.op = .call { callee := .builtin .len, args := #[x], argTypes := #[t] }) (ht : P.underlying t = some (.slice e)) (hx : lowOpd x = some x')
 (he : Env Φ n β env a) (hH : RH Φ n β H w) (hB : Keep Φ w) (h : xop P env H n K (.len x')) : QDone P o a Φ n β H K w := by
 have h0 := lowOpd_sound he hx
 have key : ∀ s m cap, a.eval x = .slice s m cap → m ≤ maxLen → K (.int .i64 m) H n → QDone P o a Φ n β H K w := fun s m cap e hm hK => by
  refine done_same (v := .int .i64 m) (fun w' _ => ?_) ?_ hK
  · simp [execOp, ho, resolve, invoke, builtin, e, Builtin.len_, run_underlying ht, goInt]
  · unfold maxLen at hm
    simp only [RV, IntKind.min, IntKind.max, IntKind.signed, IntKind.bits]
    refine ⟨trivial, by simp <;> omega, by simp <;> omega⟩
 simp only [xop] at h
 split at h
 · rename_i r π p m sz e1
   rw [e1] at h0
   simp only [RV] at h0
   obtain ⟨_, s, cap, g1, g2, g3, _⟩ := h0
   exact key s m cap g1 (by omega) h
 · rename_i m cs e1
   rw [e1] at h0
   simp only [RV] at h0
   obtain ⟨s, cap, vs, g1, g2, g3, _⟩ := h0
   exact key s m cap g1 (by omega) h
 · rename_i e1
   rw [e1] at h0
   simp only [RV] at h0
   exact key none 0 0 h0 (by simp [maxLen]) h
 · rename_i e1
   rw [e1] at h0
   simp only [RV] at h0
   obtain ⟨s, h0⟩ := h0
   exact key s 0 0 h0 (by simp [maxLen]) h
 · exact h.elim
theorem do_ext {o : Oper} {x : Operand} {x' : Opd} {i : Nat} (ho : o.op = .extract x i) (hx : lowOpd x = some x')
 (he : Env Φ n β env a) (hH : RH Φ n β H w) (hB : Keep Φ w) (h : xop P env H n K (.ext x' i)) : QDone P o a Φ n β H K w := by
 have h0 := lowOpd_sound he hx
 simp only [xop] at h
 split at h
 · rename_i vs e1
   rw [e1] at h0
   simp only [RV] at h0
   obtain ⟨arr, g1, g2⟩ := h0
   have hl := g2.length
   simp only [Array.length_toList] at hl
   have key : ∀ (vs : List AV) (us : List Value), RVt Φ n β vs us → ∀ i, i < vs.length → RV Φ n β (vs.getD i .unk) (us.getD i undef) := by
    intro vs
    induction vs with
    | nil => intro us _ i hi; simp at hi
    | cons x vs ih =>
     intro us h i hi
     simp only [RVt] at h
     obtain ⟨v, us, rfl, h1, h2⟩ := h
     cases i with
     | zero => exact h1
     | succ i => simpa using ih us h2 i (by simpa using hi)
   have hk := key vs arr.toList g2 i h.1
   have hi : i < arr.size := by rw [hl]; exact h.1
   have e : arr.toList.getD i undef = arr[i] := by simp [List.getD, hi]
   rw [e] at hk
   exact done_same (v := arr[i]) (fun w' _ => by simp [execOp, ho, g1, Instr.extract, hi]) hk h.2
 · exact h.elim
theorem do_fld {o : Oper} {t : TypeId} {x : Operand} {x' : Opd} {i : Nat} {fs : Array Field} {f : Field} {inf : TypeInfo} {ag : Bool} (ho : o.op = .field t x i) (ht : P.underlying t = some (.struct fs)) (hf : fs[i]? = some f)
 (hag : aggB P f.type = some ag) (hi : P.info? f.type = some inf) (hx : lowOpd x = some x')
 (he : Env Φ n β env a) (hH : RH Φ n β H w) (hB : Keep Φ w) (h : xop P env H n K (.fld ag f.offset inf.size x')) : QDone P o a Φ n β H K w := by
 have h0 := lowOpd_sound he hx
 simp only [xop] at h
 obtain ⟨u, hu, hue⟩ := Option.map_eq_some_iff.1 hag
 split at h
 · rename_i cs e1
   rw [e1] at h0
   simp only [RV] at h0
   obtain ⟨arr, g1, g2⟩ := h0
   obtain ⟨h1, h2, h3⟩ := h
   have hl := g2.length
   simp only [Array.length_toList] at hl
   have hia : ∀ w', (isAgg f.type).run P w' = .ok ag w' := fun w' => by
    unfold isAgg
    simp only [Sem.run_bind, run_underlying hu, Result.andThen_ok]
    cases u <;> simp_all
   cases ag with
   | false =>
    have hm := h2 rfl
    have hlt : f.offset < arr.size := by omega
    have hk := (g2.get f.offset (by omega)).1
    have e : arr.toList.getD f.offset undef = arr[f.offset] := by simp [List.getD, hlt]
    rw [e] at hk
    refine done_same (v := arr[f.offset]) (fun w' _ => ?_) hk h3
    simp [execOp, ho, g1, Instr.field, run_underlying ht, hf, asAgg, part, hia, hlt]
   | true =>
    refine done_same (v := .agg (arr.extract f.offset (f.offset + inf.size))) (fun w' _ => ?_) ?_ h3
    · simp [execOp, ho, g1, Instr.field, run_underlying ht, hf, asAgg, part, hia, sizeOf, typeInfo, hi]
    · simp only [pickCells, RV]
      refine ⟨_, rfl, ?_⟩
      have := (g2.drop f.offset).take inf.size
      simpa [Array.toList_extract, List.extract_eq_take_drop, List.take_drop, Nat.add_comm] using this
 · exact h.elim
end
end Go.Proofs.Ytmjphjphgjmojaa
