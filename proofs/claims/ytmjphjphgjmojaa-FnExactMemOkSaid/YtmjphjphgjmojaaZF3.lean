/- Append, in the abstract machine. No program is named here. -/
import Derived.Test.YtmjphjphgjmojaaZF2
import Derived.Maps.AppendAt
import Derived.ArgAppend
namespace Go.Proofs.Ytmjphjphgjmojaa
set_option linter.all false
open Go.RowKit
section
variable {P : Program} {Φ : Fz} {n : Nat} {β : Spots} {env : List AV} {H : Heap} {a : Act} {w : World} {K : AV → Heap → Nat → Prop}
def RowIn (w : World) (s : Option Addr) (vs : List Value) : Prop := vs = [] ∨ ∃ b p, s = some ⟨b, p, none⟩ ∧ ∀ i, i < vs.length → w.cell? ⟨b, p + i, none⟩ = some (vs.getD i undef)
theorem RowOf.inw {s : Option Addr} {vs : List Value} (h : RowOf Φ s vs) (hB : Keep Φ w) : RowIn w s vs :=
 h.imp id fun ⟨b, p, cs, e, fz, h1, h2, h3⟩ => ⟨b, p, h1, fun i hi => by
  have := hB _ _ h2
  simp only [World.cell?, this, Option.isSome_none, Bool.false_eq_true, if_false]
  exact h3 i hi⟩
theorem row_own {r : Nat} {π : List Nat} {t : Root} (hH : RH Φ n β H w) (hr : H.get r π = some t) (hx : (β r π).ex = true) {o m : Nat} (hl : o + m ≤ t.cs.length) :
 ∃ vs, RowIn w (some ⟨(β r π).b, o, none⟩) vs ∧ RVs Φ n β (((refer r π 0 t.cs).drop o).take m) vs := by
 obtain ⟨h2, cur, h3, h4, h5, h6⟩ := hH.own hr hx
 refine ⟨((cur.toList.take t.cs.length).drop o).take m, .inr ⟨_, _, rfl, fun i hi => ?_⟩, (h6.drop o).take m⟩
 simp only [List.length_take, List.length_drop, Array.length_toList] at hi
 have e : (((cur.toList.take t.cs.length).drop o).take m).getD i undef = cur[o + i]'(by omega) := by
  simp [List.getD, List.getElem?_take, List.getElem?_drop, show i < m by omega, show o + i < t.cs.length by omega, show o + i < cur.size by omega]
 rw [e]
 simp [World.cell?, h3, show o + i < cur.size by omega]
theorem readPart_sound {sz : Nat} {x : AV} {v : Value} {m : Nat} {ds : List AV} (hH : RH Φ n β H w) (hB : Keep Φ w) (h : readPart H sz x = some (m, ds)) (hx : RV Φ n β x v) :
 ∃ s c vs, v = .slice s m c ∧ m ≤ c ∧ RowIn w s vs ∧ RVs Φ n β ds vs ∧ ds.length = m * sz := by
 cases x <;> simp only [readPart, reduceCtorEq] at h
 case nil =>
  simp only [Option.some.injEq, Prod.mk.injEq] at h
  obtain ⟨rfl, rfl⟩ := h
  simp only [RV] at hx
  exact ⟨none, 0, [], hx, Nat.le_refl _, .inl rfl, by simp [RVs], by simp⟩
 case emp =>
  simp only [Option.some.injEq, Prod.mk.injEq] at h
  obtain ⟨rfl, rfl⟩ := h
  simp only [RV] at hx
  obtain ⟨s, hx⟩ := hx
  exact ⟨s, 0, [], hx, Nat.le_refl _, .inl rfl, by simp [RVs], by simp⟩
 case sref r π o k sz' =>
  split at h
  · rename_i t hr
    split at h
    · rename_i hc
      simp only [Option.some.injEq, Prod.mk.injEq] at h
      obtain ⟨rfl, rfl⟩ := h
      obtain ⟨rfl, hl⟩ := hc
      simp only [RV] at hx
      obtain ⟨_, s, cap, h1, h2, h3, h4⟩ := hx
      have hlen : (((refer r π 0 t.cs).drop o).take (k * sz')).length = k * sz' := by simp [refer_length]; omega
      rcases h4 with ⟨rfl, rfl, _⟩ | ⟨h4, rfl, h5⟩
      · refine ⟨s, 0, [], h1, Nat.le_refl _, .inl rfl, by simp [RVs], by simp⟩
      · obtain ⟨vs, g1, g2⟩ := row_own hH hr h4 hl
        exact ⟨_, cap, vs, h1, h2, g1, g2, hlen⟩
    · cases h
  · cases h
 case bor k cs =>
  split at h
  · rename_i hc
    simp only [Option.some.injEq, Prod.mk.injEq] at h
    obtain ⟨rfl, rfl⟩ := h
    simp only [RV] at hx
    obtain ⟨s, cap, vs, h1, h2, h3, h4, h5⟩ := hx
    exact ⟨s, cap, vs, h1, h2, h4.inw hB, h5, hc⟩
  · cases h
theorem run_append_zero {t ty e : TypeId} {i : TypeInfo} (ht : P.underlying t = some (.slice e)) (hi : P.info? e = some i) (s : Option Addr) (l c : Nat) (hc : l ≤ c) (s2 : Option Addr) (c2 : Nat) :
 (Builtin.append_ #[t, t] ty #[.slice s l c, .slice s2 0 c2]).run P w = .ok (.slice s l c) w := by
 cases s <;> cases s2 <;> simp [Builtin.append_, run_underlying ht, sizeOf, typeInfo, hi, Builtin.lenOf, Builtin.firstCells, loadCells, loadCellsFrom, hc, storeCells]
theorem exec_append {o : Oper} {t : TypeId} {x y : Operand} (ho : o.op = .call { callee := .builtin .append, args := #[x, y], argTypes := #[t, t] }) {v' : Value} {w' : World}
 (h : (Builtin.append_ #[t, t] o.type #[a.eval x, a.eval y]).run P w = .ok v' w') : (execOp a.eval o).run P w = .ok (.value v') w' := by
 simp [execOp, ho, resolve, invoke, builtin, h]
theorem get_kill {r : Nat} {π : List Nat} {r' : Nat} {π' : List Nat} {t' : Root} (hs : (H.get r π).isSome = true) (h : (H.kill r π).get r' π' = some t') : (H.get r' π').isSome = true ∧ ¬ (r' = r ∧ Under π π') := by
 cases π with
 | nil =>
  simp only [Heap.kill] at h
  by_cases e : r = r'
  · subst e
    have hd : Heap.get ((r, none) :: H) r [] = none := by simp [Heap.get, Heap.get1]
    have := get_dead hd π'
    rw [List.append_nil, h] at this
    cases this
  · rw [get_cons_ne e] at h
    exact ⟨by simp [h], fun h2 => e h2.1.symm⟩
 | cons i π =>
  simp only [Heap.get] at hs
  split at hs
  · rename_i t ht
    simp only [Heap.kill, ht] at h
    have hn : (AV.unk).node = none := rfl
    refine ⟨?_, fun ⟨h1, σ, h2⟩ => ?_⟩
    · have : ((H.put r π (t.cs.set i .unk)).get r' π').isSome = true := by rw [h]; rfl
      exact put_some ht (less_set hn) this
    · subst h1; subst h2
      have hd : (H.put r' π (t.cs.set i .unk)).get r' (i :: π) = none := by
       simp only [Heap.get, put_get ht]
       rw [getD_set]
       split
       · rfl
       · rename_i hlt
         cases hc : t.cs.getD i .unk <;> rw [hc] at hs <;> simp only [AV.node, Option.isSome_none, Bool.false_eq_true] at hs
         exact absurd ⟨rfl, own_lt hc⟩ hlt
      rw [get_dead hd σ] at h
      cases h
  · simp at hs
theorem RH.kill (h : RH Φ n β H w) {r : Nat} {π : List Nat} : RH Φ n β (H.kill r π) w := by
 cases π with
 | nil =>
  simp only [Heap.kill]
  have hg : ∀ r' π' t', Heap.get ((r, none) :: H) r' π' = some t' → H.get r' π' = some t' := by
   intro r' π' t' h'
   by_cases e : r = r'
   · subst e
     have hd : Heap.get ((r, none) :: H) r [] = none := by simp [Heap.get, Heap.get1]
     have := get_dead hd π'
     rw [List.append_nil, h'] at this
     cases this
   · rw [get_cons_ne e] at h'; exact h'
  have hs : ∀ r' π', (Heap.get ((r, none) :: H) r' π').isSome = true → (H.get r' π').isSome = true := fun r' π' h' => by
   obtain ⟨t', ht'⟩ := Option.isSome_iff_exists.1 h'
   simp [hg _ _ _ ht']
  exact ⟨fun r' π' t' h' => h.root r' π' t' (hg _ _ _ h'), fun r1 π1 r2 π2 h1 h2 => h.apart r1 π1 r2 π2 (hs _ _ h1) (hs _ _ h2)⟩
 | cons i π =>
  simp only [Heap.kill]
  split
  · rename_i t ht
    have hn : (AV.unk).node = none := rfl
    refine ⟨fun r' π' t' h' => ?_, fun r1 π1 r2 π2 h1 h2 => h.apart r1 π1 r2 π2 (put_some ht (less_set hn) h1) (put_some ht (less_set hn) h2)⟩
    rcases put_less ht (less_set hn) r' π' t' h' with ⟨rfl, rfl, rfl⟩ | ⟨hne, t0, h0, e1, e2, e3⟩
    · obtain ⟨g1, g2⟩ := h.root _ _ t ht
      refine ⟨g1, g2.imp (fun ⟨k1, k2⟩ => ⟨k1, by simp [k2]⟩) fun ⟨k1, k2, cur, k3, k4, k5, k6⟩ => ⟨k1, k2, cur, k3, k4, by simpa using k5, ?_⟩⟩
      simp only [List.length_set]
      rw [refer_set hn]
      have hl := k6.length
      refine RVs.of_get (by simpa using hl) fun j hj => ?_
      rw [List.length_set] at hj
      have := k6.get j hj
      rw [getD_set]
      split
      · exact ⟨by simp [RV], this.2⟩
      · exact this
    · obtain ⟨g1, g2⟩ := h.root r' π' t0 h0
      refine ⟨g1, ?_⟩
      unfold NodeIs at g2 ⊢
      rw [e1, e2, e3]
      exact g2.imp (fun ⟨k1, k2⟩ => ⟨k1, List.length_eq_zero_iff.1 (by rw [e2, k2]; rfl)⟩) id
  · exact h
theorem refer_move {Φ' : Fz} {n' : Nat} {β' : Spots} {r r' : Nat} {π π' : List Nat} (hΦ : Φ.le Φ') (hn : n ≤ n') (hr : r' < n') (hb : ∀ i, i < n → ∀ σ, i ≠ r' → β' i σ = β i σ) (hrn : n ≤ r') (hm : ∀ k, β' r' (k :: π') = β r (k :: π)) : ∀ {k : Nat} {cs : List AV} {vs : List Value},
 RVs Φ n β (refer r π k cs) vs → RVs Φ' n' β' (refer r' π' k cs) vs
 | _, [], _, h => by simpa only [refer, RVs] using h
 | k, c :: cs, vs, h => by
  simp only [refer, RVs] at h ⊢
  obtain ⟨v, vs', e, o, h1, h2⟩ := h
  refine ⟨v, vs', e, o, ?_, refer_move hΦ hn hr hb hrn hm h2⟩
  cases hc : c.node with
  | none =>
   rw [at_of_no hc] at h1 ⊢
   exact h1.more hΦ hn fun i hi => funext fun σ => hb i hi σ (by omega)
  | some t =>
   cases c <;> simp only [AV.node, reduceCtorEq] at hc
   simp only [AV.at, RV] at h1 ⊢
   rw [hm k]
   exact ⟨hr, h1.2⟩
def deadOf (H : Heap) : Option (Nat × List Nat) → Heap
 | none => H
 | some (r, π) => H.kill r π
theorem RH.grown {w' : World} (hH : RH Φ n β H w) {e : TypeId} {cs ds : List AV} {g : Nat} {ex : Bool} {tot : Nat} {cur : Array Value} {row : Option Nat} {dead : Option (Nat × List Nat)} (hg0 : ex = true → Φ g = none)
 (hdead : (dead = none ∧ cs = []) ∨ ∃ r π t, dead = some (r, π) ∧ H.get r π = some t ∧ t.cs = cs)
 (hc : ex = true → w'.heap[g]? = some (.cells cur e (0, 0))) (htot : ex = true → cur.size = tot) (hex : ex = false → cs ++ ds = []) (hl : (cs ++ ds).length ≤ cur.size) (hno : noOwn ds = true)
 (hv : ∃ vs us, RVs Φ n β (refer (dead.getD (0, [])).1 (dead.getD (0, [])).2 0 cs) vs ∧ RVs Φ n β ds us ∧ cur.toList.take (cs ++ ds).length = vs ++ us)
 (hgr : w.grownBy w' row) (hother : ∀ r π t, H.get r π = some t → (β r π).ex = true → some (r, π) ≠ dead → some (β r π).b ≠ row ∧ (ex = true → (β r π).b ≠ g)) :
 RH Φ (n + 1) (fun i => if i = n then fun σ => if σ = [] then ⟨ex, g, tot⟩ else β (dead.getD (0, [])).1 (σ ++ (dead.getD (0, [])).2) else β i) ((n, some ⟨e, cs ++ ds⟩) :: deadOf H dead) w' := by
 generalize hq : dead.getD (0, []) = q at hv ⊢
 obtain ⟨qr, qπ⟩ := q
 simp only at hv
 generalize hβ : (fun i => if i = n then fun σ => if σ = [] then (⟨ex, g, tot⟩ : Spot) else β qr (σ ++ qπ) else β i) = β'
 have hβn : ∀ σ, β' n σ = if σ = [] then (⟨ex, g, tot⟩ : Spot) else β qr (σ ++ qπ) := fun σ => by rw [← hβ]; simp
 have hn0 : β' n [] = ⟨ex, g, tot⟩ := by rw [hβn]; simp
 have hn1 : ∀ σ j, β' n (σ ++ [j]) = β qr (σ ++ j :: qπ) := fun σ j => by rw [hβn]; simp
 have hβo : ∀ i, i ≠ n → β' i = β i := fun i hi => by rw [← hβ]; simp [hi]
 have hb : ∀ i, i < n → β' i = β i := fun i hi => hβo i (by omega)
 have hbs : ∀ i, i < n → ∀ σ, i ≠ n → β' i σ = β i σ := fun i _ σ hn => by rw [hβo i hn]
 have hold : ∀ r π t, (deadOf H dead).get r π = some t → (∃ t0, H.get r π = some t0) ∧ (∀ r1 π1, dead = some (r1, π1) → ¬ (r = r1 ∧ Under π1 π)) := by
  intro r π t h
  cases dead with
  | none => exact ⟨⟨t, h⟩, fun _ _ h => by cases h⟩
  | some d =>
   obtain ⟨dr, dπ⟩ := d
   rcases hdead with ⟨h1, _⟩ | ⟨r2, π2, t2, h1, h2, _⟩
   · cases h1
   · cases h1
     obtain ⟨g1, g2⟩ := get_kill (by simp [h2]) h
     exact ⟨Option.isSome_iff_exists.1 g1, fun r1 π1 e => by cases e; exact g2⟩
 have hH1 : RH Φ n β (deadOf H dead) w := by cases dead with
  | none => exact hH
  | some d => exact hH.kill
 have hin : ∀ σ j t, Heap.get ((n, some ⟨e, cs ++ ds⟩) :: deadOf H dead) n (σ ++ [j]) = some t → dead = some (qr, qπ) ∧ H.get qr (σ ++ j :: qπ) = some t := by
  intro σ j t h
  have h0 : Heap.get ((n, some ⟨e, cs ++ ds⟩) :: deadOf H dead) n [] = some ⟨e, cs ++ ds⟩ := by simp [Heap.get, Heap.get1]
  by_cases hj : j < cs.length
  · rcases hdead with ⟨_, h2⟩ | ⟨r, π, t2, h1, h2, h3⟩
    · subst h2; simp at hj
    · subst h1
      simp only [Option.getD_some, Prod.mk.injEq] at hq
      obtain ⟨rfl, rfl⟩ := hq
      refine ⟨rfl, ?_⟩
      rw [← h]
      refine (get_node h0 h2 ?_ σ).symm
      rw [h3]; simp [List.getD, List.getElem?_append_left hj]
  · have hd : Heap.get ((n, some ⟨e, cs ++ ds⟩) :: deadOf H dead) n [j] = none := by
     simp only [Heap.get, Heap.get1, if_true]
     have : (cs ++ ds).getD j .unk = ds.getD (j - cs.length) .unk := by simp only [List.getD]; rw [List.getElem?_append_right (by omega)]
     rw [this]
     exact noOwn_get hno _
    rw [get_dead hd σ] at h
    cases h
 have hsome : ∀ (r : Nat) (π : List Nat) (t : Root), Heap.get ((n, some ⟨e, cs ++ ds⟩) :: deadOf H dead) r π = some t → (r = n ∧ π = [] ∧ t = ⟨e, cs ++ ds⟩) ∨ (r = n ∧ ∃ σ j, π = σ ++ [j] ∧ dead = some (qr, qπ) ∧ H.get qr (σ ++ j :: qπ) = some t) ∨ (r ≠ n ∧ (deadOf H dead).get r π = some t) := by
  intro r π t h
  by_cases e1 : n = r
  · subst e1
    rcases List.eq_nil_or_concat π with rfl | ⟨σ, j, rfl⟩
    · simp only [Heap.get, Heap.get1, if_true, Option.some.injEq] at h
      exact .inl ⟨rfl, rfl, h.symm⟩
    · rw [List.concat_eq_append] at h ⊢
      exact .inr (.inl ⟨rfl, σ, j, rfl, hin σ j t h⟩)
  · rw [get_cons_ne e1] at h
    exact .inr (.inr ⟨fun h => e1 h.symm, h⟩)
 have hneq : ∀ σ j, some (qr, σ ++ j :: qπ) ≠ some (qr, qπ) := fun σ j h => by
  simp only [Option.some.injEq, Prod.mk.injEq, true_and] at h
  have := congrArg List.length h
  simp at this
  omega
 refine ⟨fun r π t hr => ?_, fun r π r' π' hr hr' hx hx' he => ?_⟩
 · rcases hsome r π t hr with ⟨rfl, rfl, rfl⟩ | ⟨rfl, σ, j, rfl, hd, h1⟩ | ⟨hne, h1⟩
   · refine ⟨Nat.lt_succ_self _, ?_⟩
     unfold NodeIs
     rw [hn0]
     cases hxx : ex with
     | false => exact .inl ⟨rfl, hex hxx⟩
     | true =>
      refine .inr ⟨rfl, hg0 hxx, cur, hc hxx, htot hxx, hl, ?_⟩
      obtain ⟨vs, us, v1, v2, v3⟩ := hv
      rw [v3]
      have ha : refer r [] 0 (cs ++ ds) = refer r [] 0 cs ++ ds := by
       refine ext_getD (by simp [refer_length]) fun i hi => ?_
       rw [refer_getD]
       simp only [List.getD]
       by_cases hi2 : i < cs.length
       · rw [List.getElem?_append_left hi2, List.getElem?_append_left (by rw [refer_length]; exact hi2)]
         exact (refer_getD r [] 0 cs i).symm
       · rw [List.getElem?_append_right (by omega), List.getElem?_append_right (by rw [refer_length]; omega), refer_length]
         exact at_of_no (noOwn_get hno _)
      rw [ha]
      exact (refer_move (Fz.le_refl Φ) (Nat.le_succ _) (Nat.lt_succ_self _) hbs (Nat.le_refl _) (fun k => by rw [hβn]; simp) v1).append (v2.more (Fz.le_refl Φ) (Nat.le_succ _) hb)
   · refine ⟨Nat.lt_succ_self _, ?_⟩
     obtain ⟨g1, g2⟩ := hH.root _ _ t h1
     unfold NodeIs at g2 ⊢
     rw [hn1]
     refine g2.imp id fun ⟨k1, k2, cur', k3, k4, k5, k6⟩ => ⟨k1, k2, cur', ?_, k4, k5, ?_⟩
     · rw [hgr.block _ (hH.lt h1 k1) (hother _ _ _ h1 k1 (by rw [hd]; exact hneq σ j)).1]; exact k3
     · exact refer_move (Fz.le_refl Φ) (Nat.le_succ _) (Nat.lt_succ_self _) hbs (Nat.le_refl _) (fun k => by rw [hβn]; simp) k6
   · obtain ⟨⟨t0, ht0⟩, hnd⟩ := hold r π t h1
     obtain ⟨g1, g2⟩ := hH1.root r π t h1
     refine ⟨by omega, g2.keep g1 (Fz.le_refl Φ) (Nat.le_succ _) hb (fun hx => (hH1.own h1 hx).1) fun hx => ?_⟩
     exact hgr.block _ (hH.lt ht0 hx) (hother r π t0 ht0 hx (fun e => hnd _ _ e.symm ⟨rfl, Under.refl _⟩)).1
 · obtain ⟨t, ht⟩ := Option.isSome_iff_exists.1 hr
   obtain ⟨t', ht'⟩ := Option.isSome_iff_exists.1 hr'
   rcases hsome r π t ht with ⟨rfl, rfl, rfl⟩ | ⟨rfl, σ, j, rfl, hd, h1⟩ | ⟨hne, h1⟩ <;> rcases hsome r' π' t' ht' with ⟨rfl, rfl, rfl⟩ | ⟨rfl, σ', j', rfl, hd', h1'⟩ | ⟨hne', h1'⟩
   · exact ⟨rfl, rfl⟩
   · rw [hn0] at hx he
     rw [hn1] at hx' he
     exact absurd he.symm ((hother _ _ _ h1' hx' (by rw [hd']; exact hneq σ' j')).2 hx)
   · obtain ⟨⟨t0, ht0⟩, hnd⟩ := hold r' π' t' h1'
     rw [hn0] at hx he
     rw [hβo r' hne'] at hx' he
     exact absurd he.symm ((hother _ _ _ ht0 hx' (fun e => hnd _ _ e.symm ⟨rfl, Under.refl _⟩)).2 hx)
   · rw [hn0] at hx' he
     rw [hn1] at hx he
     exact absurd he ((hother _ _ _ h1 hx (by rw [hd]; exact hneq σ j)).2 hx')
   · rw [hn1] at hx he
     rw [hn1] at hx' he
     obtain ⟨_, e2⟩ := hH.apart _ _ _ _ (by rw [h1]; rfl) (by rw [h1']; rfl) hx hx' he
     refine ⟨rfl, ?_⟩
     have e3 : (σ ++ [j]) ++ qπ = (σ' ++ [j']) ++ qπ := by simpa using e2
     exact List.append_cancel_right e3
   · obtain ⟨⟨t0, ht0⟩, hnd⟩ := hold r' π' t' h1'
     rw [hn1] at hx he
     rw [hβo r' hne'] at hx' he
     obtain ⟨e1, e2⟩ := hH.apart _ _ _ _ (by rw [h1]; rfl) (by rw [ht0]; rfl) hx hx' he
     exact absurd ⟨e1.symm, σ ++ [j], by rw [← e2]; simp⟩ (hnd _ _ hd)
   · obtain ⟨⟨t0, ht0⟩, hnd⟩ := hold r π t h1
     rw [hn0] at hx' he
     rw [hβo r hne] at hx he
     exact absurd he ((hother _ _ _ ht0 hx (fun e => hnd _ _ e.symm ⟨rfl, Under.refl _⟩)).2 hx')
   · obtain ⟨⟨t0, ht0⟩, hnd⟩ := hold r π t h1
     rw [hn1] at hx' he
     rw [hβo r hne] at hx he
     obtain ⟨e1, e2⟩ := hH.apart _ _ _ _ (by rw [ht0]; rfl) (by rw [h1']; rfl) hx hx' he
     exact absurd ⟨e1, σ' ++ [j'], by rw [e2]; simp⟩ (hnd _ _ hd')
   · obtain ⟨⟨t0, ht0⟩, hnd⟩ := hold r π t h1
     obtain ⟨⟨t0', ht0'⟩, hnd'⟩ := hold r' π' t' h1'
     rw [hβo r hne] at hx he
     rw [hβo r' hne'] at hx' he
     exact hH1.apart _ _ _ _ (by rw [h1]; rfl) (by rw [h1']; rfl) hx hx' he
theorem do_app {o : Oper} {t e : TypeId} {x y : Operand} {x' y' : Opd} {inf : TypeInfo} {z : List AV} (ho : o.op = .call { callee := .builtin .append, args := #[x, y], argTypes := #[t, t] }) (ht : P.underlying t = some (.slice e)) (hi : P.info? e = some inf)
 (hz : Go.Proofs.Ytmjphjphgjmojaa.zeroCells P e = some z) (hzl : z.length = inf.size) (hpos : 0 < inf.size) (hx : lowOpd x = some x') (hy : lowOpd y = some y')
 (he : Env Φ n β env a) (hH : RH Φ n β H w) (hB : Keep Φ w) (h : xop P env H n K (.app e inf.size inf.bytes z x' y')) : Done P o a Φ n β K w := by
 have h0 := lowOpd_sound he hx
 have h1 := lowOpd_sound he hy
 obtain ⟨inf', zv, g1, g2, g3⟩ := zeroCells_sound hz
 rw [hi] at g1; cases g1
 have hzc := (lowVals_sound (Φ := Φ) (n := n) (β := β) g3).length
 simp only [Array.length_toList] at hzc
 simp only [xop] at h
 split at h
 · rename_i m ds hrd
   obtain ⟨s2, c2, vs, e1, hmc, hrow, hvs, hdl⟩ := readPart_sound hH hB hrd h1
   have hvl := hvs.length
   have hnods := noOwn_rvs hvs
   have key : ∀ (l : Nat) (cs : List AV) (us : List Value) (dead : Option (Nat × List Nat)), 0 < m → ((dead = none ∧ cs = []) ∨ ∃ r π t, dead = some (r, π) ∧ H.get r π = some t ∧ t.cs = cs) →
    w.ownsRow 0 e inf.size (a.eval x) l us → RVs Φ n β (refer (dead.getD (0, [])).1 (dead.getD (0, [])).2 0 cs) us → (l + m) * inf.bytes ≤ 2 ^ 47 → l + m ≤ 2 ^ 47 →
    (∀ k, (a.eval x).ownBlock = some k → Φ k = none) →
    (∀ r π t, H.get r π = some t → (β r π).ex = true → some (r, π) ≠ dead → some (β r π).b ≠ (a.eval x).ownBlock) → K (.sref n [] 0 (l + m) inf.size) ((n, some ⟨e, cs ++ ds⟩) :: deadOf H dead) (n + 1) → Done P o a Φ n β K w := by
    intro l cs us dead hm hdead hown hus hby hlm hfz hother hK
    have hne : vs ≠ [] := fun e2 => by rw [e2] at hvl; simp at hvl; rw [hdl] at hvl; have := Nat.mul_pos hm hpos; omega
    rcases hrow with e2 | ⟨b, p, rfl, hcell⟩
    · exact absurd e2 hne
    · obtain ⟨v', w', r1, r2, r3, r4, r5⟩ := run_append_own_at (P := P) w 0 t o.type e inf zv inf.size inf.bytes ht hi g2 rfl rfl (by omega) hpos (a.eval x) l us hown ⟨b, p, none⟩ m c2 vs (by omega)
       (fun j u hu => by
        have hj : j < vs.length := (List.getElem?_eq_some_iff.1 hu).1
        rw [addr_add, hcell j hj]
        simp [List.getD, hu]) (fun u hu => by
        obtain ⟨j, hj, rfl⟩ := List.getElem_of_mem hu
        have := (hvs.get j (by omega)).2
        simpa [List.getD, hj] using this) (by unfold maxLen; omega) (by omega) (Nat.zero_le _)
      have hlen := r2.1
      rcases r2.2 with ⟨_, hz0⟩ | ⟨g, cap, cur, rfl, hgb, hgc, hnc, hcm, hcs, htake⟩
      · omega
      · simp only [Value.ownBlock] at r5
        have hgΦ : Φ g = none := by
         rcases r5 with r5 | r5
         · exact hfz g r5.symm
         · simp only [Option.some.injEq] at r5; rw [r5]; exact hB.new
        have hul := hus.length
        rw [refer_length] at hul
        have hcl : (cs ++ ds).length = (l + m) * inf.size := by
         have := hown.1
         rw [List.length_append, hdl, Nat.add_mul]; omega
        have hle : (l + m) * inf.size ≤ cap * inf.size := Nat.mul_le_mul_right _ hnc
        have hbelow : Below 0 w w' := ⟨r3.os, r3.tape, r3.output, r3.size, fun k hk => absurd hk (Nat.not_lt_zero k)⟩
        have hkeep : Keep Φ w' := fun b x hb => by
         rw [r3.block b (hB.lt hb) (fun e3 => by rw [hfz b e3.symm] at hb; cases hb)]
         exact hB b x hb
        refine ⟨.value _, _, w', _, .sref n [] 0 (l + m) inf.size, _, n + 1, exec_append ho (by rw [e1]; exact r1), .inl rfl, hK, Nat.le_succ _, ?_, ?_, RH.grown (g := g) (ex := true) (tot := cur.size) (cur := cur) hH (fun _ => hgΦ) hdead (fun _ => hgc) (fun _ => rfl) (fun h => by cases h) (by rw [hcl, hcs]; exact hle) hnods ⟨us, vs, hus, hvs, by rw [hcl, htake]⟩ r3 (fun r π t hr hx2 hd => ⟨hother r π t hr hx2 hd, fun _ e3 => ?_⟩), hkeep, hbelow⟩
        · intro i hi; simp [show i ≠ n by omega]
        · simp only [RV]
          exact ⟨Nat.lt_succ_self _, _, cap, rfl, hnc, hcm, .inr ⟨by simp, by simp, by simp [hcs]⟩⟩
        · rcases r5 with r5 | r5
          · exact hother r π t hr hx2 hd (by rw [e3]; exact r5)
          · simp only [Option.some.injEq] at r5
            have := hH.lt hr hx2
            omega
   have keyg : ∀ (s : Option Addr) (dead : Option (Nat × List Nat)), 0 < m → ((dead = none ∧ ([] : List AV) = []) ∨ ∃ r π t, dead = some (r, π) ∧ H.get r π = some t ∧ t.cs = []) →
    a.eval x = .slice s 0 0 → m * inf.bytes ≤ 2 ^ 47 → m ≤ 2 ^ 47 → (∀ r π, dead = some (r, π) → (β r π).ex = false) → K (.sref n [] 0 m inf.size) ((n, some ⟨e, ds⟩) :: deadOf H dead) (n + 1) → Done P o a Φ n β K w := by
    intro s dead hm hdead hs hby hlm hdx hK
    cases s with
    | none =>
     refine key 0 [] [] dead hm hdead (by rw [hs]; exact World.ownsRow_nil w _ e inf.size) (by simp [refer, RVs]) (by simpa using hby) (by omega) (fun k hk => by rw [hs] at hk; simp [Value.ownBlock] at hk) (fun r π t _ _ _ => by rw [hs]; simp [Value.ownBlock]) (by simpa using hK)
    | some ad =>
     have hne : vs ≠ [] := fun e2 => by rw [e2] at hvl; simp at hvl; rw [hdl] at hvl; have := Nat.mul_pos hm hpos; omega
     rcases hrow with e2 | ⟨b, p, rfl, hcell⟩
     · exact absurd e2 hne
     · obtain ⟨v', w', r1, r2, r3⟩ := run_append_arg_grows (P := P) w t o.type e inf zv inf.size inf.bytes ht hi g2 rfl rfl (by omega) hpos ad 0 0 [] (by simp) (by simp) ⟨b, p, none⟩ m c2 vs (by omega)
        (fun j u hu => by
         have hj : j < vs.length := (List.getElem?_eq_some_iff.1 hu).1
         rw [addr_add, hcell j hj]
         simp [List.getD, hu]) (by omega) (by unfold maxLen; omega) (by rw [Nat.zero_add]; omega)
       have hlen := r2.1
       simp only [Nat.zero_add, List.nil_append] at hlen r2
       rcases r2.2 with ⟨_, hz0⟩ | ⟨g, cap, cur, rfl, hgb, hgc, hnc, hcm, hcs, htake⟩
       · omega
       · have hgΦ : Φ g = none := by
          cases e3 : Φ g with
          | none => rfl
          | some y => have := hB.lt e3; omega
         have hbelow : Below 0 w w' := ⟨r3.os, r3.tape, r3.output, r3.size, fun k hk => absurd hk (Nat.not_lt_zero k)⟩
         have hkeep : Keep Φ w' := fun b x hb => by
          rw [r3.block b (hB.lt hb) (by simp)]
          exact hB b x hb
         have hle : m * inf.size ≤ cap * inf.size := Nat.mul_le_mul_right _ hnc
         refine ⟨.value _, _, w', _, .sref n [] 0 m inf.size, _, n + 1, exec_append ho (by rw [hs, e1]; exact r1), .inl rfl, hK, Nat.le_succ _, ?_, ?_, RH.grown (g := g) (ex := true) (tot := cur.size) (cur := cur) (cs := []) hH (fun _ => hgΦ) hdead (fun _ => hgc) (fun _ => rfl) (fun h => by cases h) (by simp only [List.nil_append]; rw [hdl, hcs]; exact hle) hnods ⟨[], vs, by simp [refer, RVs], hvs, by simp only [List.nil_append]; rw [hdl, htake]⟩ r3 (fun r π t hr hx2 hd => ⟨by simp, fun _ e3 => ?_⟩), hkeep, hbelow⟩
         · intro i hi; simp [show i ≠ n by omega]
         · simp only [RV]
           exact ⟨Nat.lt_succ_self _, _, cap, rfl, hnc, hcm, .inr ⟨by simp, by simp, by simp [hcs]⟩⟩
         · have := hH.lt hr hx2
           omega
   have hsame : w.grownBy w none := ⟨rfl, rfl, rfl, Nat.le_refl _, fun _ _ _ => rfl⟩
   have none0 : ∀ (s : Option Addr) (l cap : Nat) (cs : List AV) (us : List Value) (dead : Option (Nat × List Nat)) (ex : Bool) (g tot : Nat) (cur : Array Value), m = 0 → a.eval x = .slice s l cap → l ≤ cap → cap ≤ maxLen →
    ((dead = none ∧ cs = []) ∨ ∃ r π t, dead = some (r, π) ∧ H.get r π = some t ∧ t.cs = cs) → RVs Φ n β (refer (dead.getD (0, [])).1 (dead.getD (0, [])).2 0 cs) us →
    ((l = 0 ∧ cap = 0 ∧ ex = false) ∨ (ex = true ∧ s = some ⟨g, 0, none⟩ ∧ cap * inf.size = tot)) → (ex = true → Φ g = none ∧ w.heap[g]? = some (.cells cur e (0, 0)) ∧ cur.size = tot ∧ cur.toList.take cs.length = us) → (ex = false → cs = []) → cs.length ≤ cur.size → 
    (∀ r π t, H.get r π = some t → (β r π).ex = true → some (r, π) ≠ dead → ex = true → (β r π).b ≠ g) → K (.sref n [] 0 (l + m) inf.size) ((n, some ⟨e, cs ++ ds⟩) :: deadOf H dead) (n + 1) → Done P o a Φ n β K w := by
    intro s l cap cs us dead ex g tot cur hm q1 q2 q3 hdead hus hat hexx hcs0 hcl hother hK
    subst hm
    have hds : ds = [] := List.length_eq_zero_iff.1 (by omega)
    subst hds
    refine ⟨.value (a.eval x), _, w, _, .sref n [] 0 (l + 0) inf.size, _, n + 1, exec_append ho (by rw [q1, e1]; exact run_append_zero ht hi _ _ _ q2 s2 c2), .inl rfl, hK, Nat.le_succ _, ?_, ?_, RH.grown (g := g) (ex := ex) (tot := tot) (cur := cur) (row := none) hH (fun h => (hexx h).1) hdead (fun h => (hexx h).2.1) (fun h => (hexx h).2.2.1) (fun h => by simp [hcs0 h]) (by simpa using hcl) rfl ?_ hsame (fun r π t hr hx2 hd => ⟨by simp, fun hx => hother r π t hr hx2 hd hx⟩), hB, Below.refl _ _⟩
    · intro i hi; simp [show i ≠ n by omega]
    · simp only [RV, Nat.add_zero]
      exact ⟨Nat.lt_succ_self _, s, cap, q1, q2, q3, by simpa using hat⟩
    · cases hxx : ex with
      | true =>
       refine ⟨us, [], hus, by simp [RVs], ?_⟩
       have := (hexx hxx).2.2.2
       simpa using this
      | false =>
       have hc0 := hcs0 hxx
       subst hc0
       exact ⟨[], [], by simp [refer, RVs], by simp [RVs], by simp⟩
   split at h
   · rename_i es
     rw [es] at h0
     simp only [RV] at h0
     obtain ⟨⟨b1, b2⟩, hK⟩ := h
     by_cases hm : m = 0
     · exact none0 none 0 0 [] [] none false 0 0 #[] hm h0 (Nat.le_refl _) (Nat.zero_le _) (.inl ⟨rfl, rfl⟩) (by simp [refer, RVs]) (.inl ⟨rfl, rfl, rfl⟩) (fun h => by cases h) (fun _ => rfl) (Nat.zero_le _) (fun _ _ _ _ _ _ h => by cases h) (by simpa [deadOf] using hK)
     · exact keyg none none (by omega) (.inl ⟨rfl, rfl⟩) h0 b1 b2 (fun _ _ h => by cases h) (by simpa [deadOf] using hK)
   · rename_i es
     rw [es] at h0
     simp only [RV] at h0
     obtain ⟨s0, h0⟩ := h0
     obtain ⟨⟨b1, b2⟩, hK⟩ := h
     by_cases hm : m = 0
     · exact none0 s0 0 0 [] [] none false 0 0 #[] hm h0 (Nat.le_refl _) (Nat.zero_le _) (.inl ⟨rfl, rfl⟩) (by simp [refer, RVs]) (.inl ⟨rfl, rfl, rfl⟩) (fun h => by cases h) (fun _ => rfl) (Nat.zero_le _) (fun _ _ _ _ _ _ h => by cases h) (by simpa [deadOf] using hK)
     · exact keyg s0 none (by omega) (.inl ⟨rfl, rfl⟩) h0 b1 b2 (fun _ _ h => by cases h) (by simpa [deadOf] using hK)
   · rename_i sv hne
     split at h
     · rename_i l cs r π hop
       obtain ⟨⟨b1, b2⟩, hK⟩ := h
       cases hsv : x'.val env with
       | sref r' π' o' l' sz' =>
        rw [hsv] at hop h0
        simp only [ownPart] at hop
        split at hop
        · rename_i t' hr
          split at hop
          · rename_i hc
            simp only [Option.some.injEq, Prod.mk.injEq] at hop
            obtain ⟨rfl, rfl, rfl, rfl⟩ := hop
            obtain ⟨rfl, rfl, rfl, hcl⟩ := hc
            simp only [RV] at h0
            obtain ⟨hrn, s, cap, q1, q2, q3, q4⟩ := h0
            have hd : (some (r', π') = none ∧ t'.cs = []) ∨ ∃ r π t, some (r', π') = some (r, π) ∧ H.get r π = some t ∧ t.cs = t'.cs := .inr ⟨r', π', t', rfl, hr, rfl⟩
            rcases q4 with ⟨c1, c2', c3 | c3⟩ | ⟨q4, rfl, q5⟩
            · exact absurd rfl c3
            · subst c1; subst c2'
              have hcs0 : t'.cs = [] := List.length_eq_zero_iff.1 (by omega)
              by_cases hm : m = 0
              · exact none0 s 0 0 t'.cs [] (some (r', π')) false 0 0 #[] hm q1 (Nat.le_refl _) (Nat.zero_le _) hd (by rw [hcs0]; simp [refer, RVs]) (.inl ⟨rfl, rfl, rfl⟩) (fun h => by cases h) (fun _ => hcs0) (by rw [hcs0]; exact Nat.zero_le _) (fun _ _ _ _ _ _ h => by cases h) hK
              · rw [hcs0] at hK
                simp only [Nat.zero_add, List.nil_append] at hK b1 b2
                exact keyg s (some (r', π')) (by omega) (.inr ⟨r', π', t', rfl, hr, hcs0⟩) q1 b1 b2 (fun r π h => by cases h; exact c3) hK
            · obtain ⟨u2, cur, u3, u4, u5, u6⟩ := hH.own hr q4
              have htk : cur.toList.take (l' * inf.size) = cur.toList.take t'.cs.length := by rw [hcl]
              have hoth : ∀ r π t, H.get r π = some t → (β r π).ex = true → some (r, π) ≠ some (r', π') → (β r π).b ≠ (β r' π').b := fun r π t h1 h2 h3 e3 => by
               obtain ⟨rfl, rfl⟩ := hH.apart _ _ _ _ (by simp [h1]) (by simp [hr]) h2 q4 e3
               exact h3 rfl
              by_cases hm : m = 0
              · exact none0 _ l' cap t'.cs _ (some (r', π')) true (β r' π').b (β r' π').tot cur hm q1 q2 q3 hd u6 (.inr ⟨rfl, rfl, by simpa using q5⟩) (fun _ => ⟨u2, u3, u4, rfl⟩) (fun h => by cases h) u5 (fun r π t h1 h2 h3 _ => hoth r π t h1 h2 h3) hK
              · have hown : w.ownsRow 0 t'.e inf.size (a.eval x) l' (cur.toList.take t'.cs.length) := by
                 refine ⟨by simp; omega, .inr ⟨_, cap, cur, q1, Nat.zero_le _, u3, q2, q3, by omega, htk⟩⟩
                exact key l' t'.cs _ (some (r', π')) (by omega) hd hown u6 b1 b2 (fun k hk => by rw [q1] at hk; simp only [Value.ownBlock, Option.some.injEq] at hk; rw [← hk]; exact u2)
                 (fun r π t h1 h2 h3 => by rw [q1]; simp only [Value.ownBlock, ne_eq, Option.some.injEq]; exact hoth r π t h1 h2 h3) hK
          · cases hop
        · cases hop
       | _ => rw [hsv] at hop; simp [ownPart] at hop
     · exact h.elim
 · exact h.elim
end
end Go.Proofs.Ytmjphjphgjmojaa
