/- Regions whose order is open: the model's part. No program is named here. -/
import Derived.Test.YtmjphjphgjmojaaZM2
namespace Go.Proofs.Ytmjphjphgjmojaa
set_option linter.all false
open Go.RowKit
def FsOk (Φ0 Φ : Fz) (a : Act) : Fresh → Prop
 | none => True
 | some (d, e, z) => ∃ b cur, d < a.tmps.size ∧ a.tmps.getD d undef = .pointer (some ⟨b, 0, none⟩) ∧ Φ b = some (false, .cells cur e (0, 0)) ∧ Φ0 b = none ∧ lowVals cur.toList = some z
structure RelF (w0 : World) (Φ0 Φ : Fz) (n : Nat) (β : Spots) (env : List AV) (H : Heap) (fs : Fresh) (a : Act) (w : World) : Prop where
 rel : Rel w0 Φ n β env H a w
 le : Φ0.le Φ
 fs : FsOk Φ0 Φ a fs
section
variable {P : Program} {w0 : World} {Φ0 Φ : Fz} {n : Nat} {β : Spots} {env : List AV} {H : Heap} {a : Act} {w : World} {fs : Fresh}
theorem FsOk.put {Φ' : Fz} {dst : Option Nat} {v : Value} (h : FsOk Φ0 Φ a fs) (hΦ : Φ.le Φ') (hd : ∀ d e z, fs = some (d, e, z) → dst ≠ some d) : FsOk Φ0 Φ' (a.put dst v) fs := by
 cases fs with
 | none => trivial
 | some p =>
  obtain ⟨d, e, z⟩ := p
  obtain ⟨b, cur, h1, h2, h3, h4, h5⟩ := h
  have hne := hd d e z rfl
  refine ⟨b, cur, ?_, ?_, hΦ _ _ h3, h4, h5⟩
  · cases dst <;> simpa [Act.put] using h1
  · cases dst with
    | none => exact h2
    | some t =>
     have : t ≠ d := fun e => hne (by rw [e])
     simp only [Act.put]
     rw [← h2]
     simp only [Array.getD, Array.size_setIfInBounds]
     rw [dif_pos h1, dif_pos h1]
     exact Array.getElem_setIfInBounds_ne h1 this
theorem run_bsl {o : Oper} {t e : TypeId} {m : Nat} {ps : Array (Nat × Operand)} {qs : List (Nat × Nat × Opd)} {z cs : List AV} {inf : TypeInfo} (ho : o.op = .buildSlice t m ps) (ht : P.underlying t = some (.slice e)) (hi : P.info? e = some inf)
 (hz : Go.Proofs.Ytmjphjphgjmojaa.zeroCells P e = some z) (hsz : m * inf.size ≤ 2 ^ 24) (hzl : z.length = inf.size) (hpos : 0 < inf.size) (hp : lowElems inf.size ps.toList = some qs)
 (he : Env Φ n β env a) (hf : fillParts env (repeatCells z m) qs = some cs) :
 ∃ cur, (execOp a.eval o).run P w = .ok (.value (.slice (some ⟨w.heap.size, 0, none⟩) m m)) { w with heap := w.heap.push (.cells cur e (0, 0)) } ∧ RVs Φ n β cs cur.toList ∧ m ≤ maxLen := by
 obtain ⟨inf', v, g1, g2, g3⟩ := zeroCells_sound hz
 rw [hi] at g1; cases g1
 have hv := lowVals_sound (Φ := Φ) (n := n) (β := β) g3
 have hl := hv.length
 simp only [Array.length_toList] at hl
 have hrep := repeat_sound hv m
 obtain ⟨cur, r1, r2, r3⟩ := fill_sound (fun i => some (i * inf.size, inf.size)) he ps.toList qs (repeatCells z m) cs _ (lowElems_sound inf.size _ _ hp) hrep hf
 have hm : (ps.map fun (x : Nat × Operand) => (x.1, a.eval x.2)).toList = ps.toList.map fun p => (p.1, a.eval p.2) := by simp
 refine ⟨cur, ?_, r2, ?_⟩
 · have hne : ¬ (m * inf.size > 2 ^ 24) := by omega
   have hsz2 : (Array.range (m * v.cells.size)).map (v.cells[· % v.cells.size]!) = (Array.range (m * inf.size)).map (v.cells[· % v.cells.size]!) := by rw [hl, hzl]
   rw [hsz2] at r1
   by_cases hm0 : m * inf.size = 0
   · have : m = 0 := by
      rcases Nat.mul_eq_zero.1 hm0 with h | h <;> omega
     subst this
     simp only [Nat.zero_mul, Array.range_zero', Array.map_empty] at r1
     simp [execOp, ho, Instr.buildSlice, run_underlying ht, sizeOf, typeInfo, hi, r1, newRow, Array.range_zero']
   · simp only [execOp, ho, Instr.buildSlice, Sem.run_bind, run_underlying ht, Result.andThen_ok, sizeOf, typeInfo, run_program, hi, Sem.run_pure, if_neg hne, if_neg hm0, zeroValue, g2, hm, r1, newRow, run_newObj, Sem.run_ite]
 · have : m ≤ 2 ^ 24 := Nat.le_trans (Nat.le_mul_of_pos_right m hpos) hsz
   unfold maxLen; omega
theorem run_fresh {o : Oper} {e : TypeId} {z : List AV} (ho : o.op = .alloc e) (hz : Go.Proofs.Ytmjphjphgjmojaa.zeroCells P e = some z) :
 ∃ cur, (execOp a.eval o).run P w = .ok (.value (.pointer (some ⟨w.heap.size, 0, none⟩))) { w with heap := w.heap.push (.cells cur e (0, 0)) } ∧ lowVals cur.toList = some z := by
 obtain ⟨inf, v, h1, h2, h3⟩ := zeroCells_sound hz
 exact ⟨v.cells, by simp [execOp, ho, Instr.alloc, newVar, newRow, zeroValue, typeInfo, h1, h2], h3⟩
def Fz.add (Φ : Fz) (b : Nat) (x : Bool × Obj) : Fz := fun k => if k = b then some x else Φ k
theorem Rel.frozen {o : Obj} {f : Bool} (h : Rel w0 Φ n β env H a w) : Rel w0 (Φ.add w.heap.size (f, o)) n β env H a { w with heap := w.heap.push o } ∧ Φ.le (Φ.add w.heap.size (f, o)) := by
 have hle : Φ.le (Φ.add w.heap.size (f, o)) := fun b x hb => by
  have := h.keep.lt hb
  simp only [Fz.add]
  rw [if_neg (by omega)]; exact hb
 refine ⟨⟨h.env.more hle (Nat.le_refl _) fun _ _ => rfl, h.heap.kept hle (Nat.le_refl _) (fun _ _ => rfl) (fun r π t hr hx => ?_) (fun r π t hr hx => Below.heap_alloc w _ _ (h.heap.lt hr hx)), fun b x hb => ?_, h.since.trans ((Below.refl 0 w).alloc (Nat.zero_le _) _), h.defers⟩, hle⟩
 · have := h.heap.lt hr hx
   simp only [Fz.add]
   rw [if_neg (by omega)]; exact (h.heap.own hr hx).1
 · simp only [Fz.add] at hb
   split at hb
   · rename_i e
     cases hb
     simp [e]
   · exact h.keep.alloc o b x hb
theorem gate_wanted {ops : List Oper} {o : Oper} {g : Option (Nat × Bool)} (hg : lowGuard ops o.guard = some g) (he : Env Φ n β env a) {b : Bool} (h : gate g env = some b) : Region.wanted o (yielded ops.toArray a.tmps) = b := by
 cases hgd : o.guard with
 | none =>
  rw [hgd] at hg
  simp only [lowGuard, Option.some.injEq] at hg
  subst hg
  simp only [gate, Option.some.injEq] at h
  subst h
  simp [Region.wanted, hgd]
 | some p =>
  obtain ⟨j, want⟩ := p
  rw [hgd] at hg
  simp only [lowGuard] at hg
  split at hg
  · rename_i oj hj
    split at hg
    · rename_i d hd
      simp only [Option.some.injEq] at hg
      subst hg
      simp only [gate] at h
      split at h
      · rename_i b' hb
        simp only [Option.some.injEq] at h
        have hy := guard_bool hj hd he hb
        simp only [Region.wanted, hgd, hy]
        rw [← h]
        by_cases hbw : b' = want <;> simp [hbw]
      · rename_i hb
        simp only [Option.some.injEq] at h
        have hy := guard_und hj hd he hb
        simp only [Region.wanted, hgd, hy]
        rw [← h]
        simp
      · cases h
    · cases hg
  · cases hg
theorem step_drawn {ops : List Oper} {j : Nat} {o : Oper} {lo : LOper} {x : AV} {H' : Heap} {n' : Nat} {fs' : Fresh} (hj : ops[j]? = some o) (hl : lowOper P ops o = some lo) (h : RelF w0 Φ0 Φ n β env H fs a w) (hS : Stp P env H n fs lo x H' n' fs')
 (hd : ∀ d e z, fs = some (d, e, z) → lo.dst ≠ some d) (hsz : isFresh lo.op = true → ∀ d, lo.dst = some d → d < env.length) {next : Act → World → Prop} {Q : Exit → Act → World → Prop}
 (hn : ∀ v Φ' β' w', n ≤ n' → (∀ i, i < n → β' i = β i) → Φ.le Φ' → RelF w0 Φ0 Φ' n' β' (put env lo.dst x) H' fs' (a.put lo.dst v) w' → next (a.put lo.dst v) w') : wpOp P ops.toArray Q j next a w := by
 obtain ⟨g1, g2, g3, g4⟩ := lowOper_spec hl
 unfold wpOp
 simp only [List.getElem?_toArray, hj]
 simp only [Stp] at hS
 split at hS
 · rename_i hg
   rw [gate_wanted g2 h.rel.env hg, if_pos rfl]
   refine .inl ?_
   split at hS
   · rename_i be bsz bm bz bps hop
     split at hS
     · rename_i cs hcs
       obtain ⟨rfl, rfl, rfl, rfl⟩ := hS
       rw [hop] at g1
       unfold lowOp at g1
       split at g1
       case h_7 t m ps ho =>
        split at g1
        · rename_i e h1
          split at g1
          · rename_i inf z h2 h3
            split at g1
            · rename_i h4
              obtain ⟨qs, h5, h6⟩ := Option.map_eq_some_iff.1 g1
              cases h6
              obtain ⟨cur, r1, r2, r3⟩ := run_bsl (P := P) (w := w) ho h1 h2 h3 h4.1 h4.2.1 h4.2.2 h5 h.rel.env hcs
              unfold Oper.wp
              rw [r1]
              simp only [Oper.upon]
              rw [← g3]
              obtain ⟨k1, k2⟩ := h.rel.frozen (o := .cells cur be (0, 0)) (f := true)
              refine hn _ _ β _ (Nat.le_refl _) (fun _ _ => rfl) k2 ⟨⟨k1.env.put ?_, k1.heap, k1.keep, k1.since, ?_⟩, h.le.trans k2, h.fs.put k2 hd⟩
              · unfold frozenOf
                split
                · simp only [RV]; exact ⟨_, rfl⟩
                · simp only [RV]
                  refine ⟨_, _, cur.toList, rfl, Nat.le_refl _, r3, .inr ⟨_, 0, cur, be, (0, 0), rfl, by simp [Fz.add], fun i hi => ?_⟩, r2.more k2 (Nat.le_refl _) fun _ _ => rfl⟩
                  simp only [Array.length_toList] at hi
                  simp [List.getD, hi]
              · cases lo.dst <;> exact h.rel.defers
            · cases g1
          · cases g1
        · cases g1
       all_goals
        try (obtain ⟨y, h1, h2⟩ := Option.map_eq_some_iff.1 g1; cases h2; done)
        try (repeat' (split at g1)) <;> first | (cases g1; done) | (obtain ⟨y, h1, h2⟩ := Option.map_eq_some_iff.1 g1; cases h2; done)
     · exact hS.elim
   · rename_i fe fz hop
     split at hS
     · rename_i d hdst
       obtain ⟨rfl, rfl, rfl, rfl⟩ := hS
       rw [hop] at g1
       unfold lowOp at g1
       split at g1
       case h_5 e ho =>
        obtain ⟨z, h1, h2⟩ := Option.map_eq_some_iff.1 g1
        cases h2
        obtain ⟨cur, r1, r2⟩ := run_fresh (P := P) (w := w) (a := a) ho h1
        unfold Oper.wp
        rw [r1]
        simp only [Oper.upon]
        rw [← g3]
        obtain ⟨k1, k2⟩ := h.rel.frozen (o := .cells cur fe (0, 0)) (f := false)
        refine hn _ _ β _ (Nat.le_refl _) (fun _ _ => rfl) k2 ⟨⟨k1.env.put (by simp [RV]), k1.heap, k1.keep, k1.since, ?_⟩, h.le.trans k2, ?_⟩
        · cases lo.dst <;> exact h.rel.defers
        · have hlt := hsz (by rw [hop]; rfl) d hdst
          rw [h.rel.env.len] at hlt
          refine ⟨w.heap.size, cur, by simp [Act.put, hdst, hlt], by simp [Act.put, hdst, Array.getD, hlt], by simp [Fz.add], ?_, r2⟩
          cases e0 : Φ0 w.heap.size with
          | none => rfl
          | some y =>
           have := h.rel.keep.lt (h.le _ _ e0)
           omega
       all_goals
        try (obtain ⟨y, h1, h2⟩ := Option.map_eq_some_iff.1 g1; cases h2; done)
        try (repeat' (split at g1)) <;> first | (cases g1; done) | (obtain ⟨y, h1, h2⟩ := Option.map_eq_some_iff.1 g1; cases h2; done)
     · exact hS.elim
   · obtain ⟨hx, rfl⟩ := hS
     refine step_sound (K := fun v b c => x = v ∧ H' = b ∧ n' = c) g1 g4 h.rel hx fun x2 v Φ' H2 n2 β' w' ⟨e1, e2, e3⟩ k1 k2 k3 k4 => ?_
     subst e1; subst e2; subst e3
     rw [← g3] at k4 ⊢
     exact hn v Φ' β' w' k1 k2 k3 ⟨k4, h.le.trans k3, h.fs.put k3 hd⟩
 · rename_i hg
   rw [gate_wanted g2 h.rel.env hg, if_neg (by simp)]
   obtain ⟨rfl, rfl, rfl, rfl⟩ := hS
   rw [← g3]
   refine hn undef Φ β w (Nat.le_refl _) (fun _ _ => rfl) (Fz.le_refl Φ) ⟨h.rel.put lo.dst (Fz.le_refl Φ) (Nat.le_refl _) (fun _ _ => rfl) (by simp [RV]) h.rel.heap h.rel.keep (Below.refl _ _), h.le, h.fs.put (Fz.le_refl Φ) hd⟩
 · exact hS.elim
theorem RelF.link {d : Nat} {e : TypeId} {z : List AV} (h : RelF w0 Φ0 Φ n β env H (some (d, e, z)) a w) :
 ∃ Φ' β', Φ0.le Φ' ∧ (∀ i, i < n → β' i = β i) ∧ Rel w0 Φ' (n + 1) β' (put env (some d) (.ptr n [] 0)) ((n, some ⟨e, z⟩) :: H) a w := by
 obtain ⟨⟨he, hH, hK, hs, hdf⟩, hle, b, cur, h1, h2, h3, h4, h5⟩ := h
 generalize hΦ : (fun k => if k = b then none else Φ k : Fz) = Φ'
 have hΦk : ∀ k, Φ' k = if k = b then none else Φ k := fun k => by rw [← hΦ]
 have htle : Φ.tle Φ' := fun k o hk => by
  rw [hΦk, if_neg]; exact hk
  rintro rfl; rw [h3] at hk; cases hk
 have hb := hK _ _ h3
 generalize hβ : (fun i => if i = n then fun _ => (⟨true, b, cur.size⟩ : Spot) else β i) = β'
 have hβn : ∀ π, β' n π = ⟨true, b, cur.size⟩ := fun π => by rw [← hβ]; simp
 have hβo : ∀ i, i < n → β' i = β i := fun i hi => by rw [← hβ]; simp [show i ≠ n by omega]
 have hz : RVs Φ' (n + 1) β' z cur.toList := lowVals_sound h5
 have hno := noOwn_rvs hz
 have hl := hz.length
 simp only [Array.length_toList] at hl
 have hsep : ∀ r π t, H.get r π = some t → (β r π).ex = true → (β r π).b ≠ b := fun r π t hr hx e0 => by
  have := (hH.own hr hx).1
  rw [e0, h3] at this; cases this
 have hnew : ∀ π t, Heap.get ((n, some ⟨e, z⟩) :: H) n π = some t → π = [] ∧ t = ⟨e, z⟩ := by
  intro π t ht
  rcases List.eq_nil_or_concat π with rfl | ⟨σ, j, rfl⟩
  · simp only [Heap.get, Heap.get1, if_true, Option.some.injEq] at ht
    exact ⟨rfl, ht.symm⟩
  · have hd : Heap.get ((n, some ⟨e, z⟩) :: H) n [j] = none := by
     have hnj := noOwn_get hno j
     simp only [Heap.get, Heap.get1, if_true]; exact hnj
    rw [List.concat_eq_append, get_dead hd σ] at ht
    cases ht
 refine ⟨Φ', β', fun k x hk => ?_, hβo, ⟨?_, ⟨fun r π t hr => ?_, fun r π r' π' hr hr' hx hx' he => ?_⟩, fun k x hk => ?_, hs, hdf⟩⟩
 · rw [hΦk, if_neg]
   · exact hle _ _ hk
   · rintro rfl; rw [h4] at hk; cases hk
 · have he2 : Env Φ' (n + 1) β' env a := ⟨fun t => (he.rel t).moreT htle (Nat.le_succ _) hβo, he.len⟩
   refine ⟨fun t => ?_, by simpa [put] using he.len⟩
   have h0 := he2.rel t
   simp only [put]
   rw [getD_set]
   split
   · rename_i hc
     obtain ⟨rfl, _⟩ := hc
     rw [h2]
     simp only [RV, hβn]
     exact ⟨Nat.lt_succ_self _, trivial, trivial⟩
   · exact h0
 · by_cases e1 : n = r
   · subst e1
     obtain ⟨rfl, rfl⟩ := hnew π t hr
     refine ⟨Nat.lt_succ_self _, .inr ?_⟩
     rw [hβn]
     refine ⟨rfl, by rw [hΦk]; simp, cur, hb, rfl, by simp only; omega, ?_⟩
     rw [refer_no hno]
     exact hz.take_length
   · rw [get_cons_ne e1] at hr
     obtain ⟨k1, k2⟩ := hH.root r π t hr
     refine ⟨by omega, ?_⟩
     unfold NodeIs at k2 ⊢
     rw [hβo r k1]
     refine k2.imp id fun ⟨c1, c2, cu, c3, c4, c5, c6⟩ => ⟨c1, by rw [hΦk, if_neg (hsep r π t hr c1)]; exact c2, cu, c3, c4, c5, c6.moreT htle (Nat.le_succ _) hβo⟩
 · obtain ⟨t, ht⟩ := Option.isSome_iff_exists.1 hr
   obtain ⟨t', ht'⟩ := Option.isSome_iff_exists.1 hr'
   by_cases e1 : n = r <;> by_cases e2 : n = r'
   · subst e1; subst e2
     obtain ⟨rfl, _⟩ := hnew π t ht
     obtain ⟨rfl, _⟩ := hnew π' t' ht'
     exact ⟨rfl, rfl⟩
   · subst e1
     rw [get_cons_ne e2] at ht'
     have k1 := (hH.root _ _ _ ht').1
     rw [hβn] at he
     rw [hβo r' k1] at hx' he
     exact absurd he.symm (hsep _ _ _ ht' hx')
   · subst e2
     rw [get_cons_ne e1] at ht
     have k1 := (hH.root _ _ _ ht).1
     rw [hβn] at he
     rw [hβo r k1] at hx he
     exact absurd he (hsep _ _ _ ht hx)
   · rw [get_cons_ne e1] at ht
     rw [get_cons_ne e2] at ht'
     have k1 := (hH.root _ _ _ ht).1
     have k2 := (hH.root _ _ _ ht').1
     rw [hβo r k1] at hx he
     rw [hβo r' k2] at hx' he
     exact hH.apart _ _ _ _ (by simp [ht]) (by simp [ht']) hx hx' he
 · rw [hΦk] at hk
   split at hk
   · cases hk
   · exact hK _ _ hk
end
end Go.Proofs.Ytmjphjphgjmojaa
