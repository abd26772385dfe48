/- What the abstract machine's operations say of the model's: each one but the calls. No program is named here. -/
import Derived.Test.YtmjphjphgjmojaaZB
import Derived.Laws.OwnMore
namespace Go.Proofs.Ytmjphjphgjmojaa
set_option linter.all false
open Go.RowKit
section
variable {P : Program} {Φ : Fz} {n : Nat} {β : Spots} {env : List AV} {H : Heap} {a : Act} {w : World}
structure Env (Φ : Fz) (n : Nat) (β : Spots) (env : List AV) (a : Act) : Prop where
 rel : ∀ t, RV Φ n β (env.getD t .unk) (a.tmps.getD t undef)
 len : env.length = a.tmps.size
theorem Env.more {Φ' : Fz} {n' : Nat} {β' : Spots} (h : Env Φ n β env a) (hΦ : Φ.le Φ') (hn : n ≤ n') (hb : ∀ i, i < n → β' i = β i) : Env Φ' n' β' env a :=
 ⟨fun t => (h.rel t).more hΦ hn hb, h.len⟩
theorem Env.put {d : Option Nat} {x : AV} {v : Value} (h : Env Φ n β env a) (hx : RV Φ n β x v) : Env Φ n β (put env d x) (a.put d v) := by
 cases d with
 | none => exact h
 | some d =>
  refine ⟨fun t => ?_, by simpa [Go.Proofs.Ytmjphjphgjmojaa.put, Act.put] using h.len⟩
  have h0 := h.rel t
  have hl := h.len
  simp only [Go.Proofs.Ytmjphjphgjmojaa.put, Act.put]
  by_cases e : d = t ∧ t < env.length
  · obtain ⟨rfl, e⟩ := e
    rw [getD_set, if_pos ⟨rfl, e⟩]
    rw [hl] at e
    simpa [Array.getD, e] using hx
  · rw [getD_set, if_neg e]
    have : (a.tmps.setIfInBounds d v).getD t undef = a.tmps.getD t undef := by
     by_cases e1 : d = t
     · subst e1
       have : ¬ d < a.tmps.size := by rw [← hl]; exact fun h => e ⟨rfl, h⟩
       simp [Array.getD, this]
     · simp only [Array.getD, Array.size_setIfInBounds]
       split
       · rename_i ht
         exact Array.getElem_setIfInBounds_ne ht e1
       · rfl
    rw [this]; exact h0
mutual
theorem lowVal_sound : ∀ {v : Value} {x : AV}, lowVal v = some x → RV Φ n β x v
 | .bool b, x, h => by simp only [lowVal, Option.some.injEq] at h; subst h; simp [RV]
 | .int k z, x, h => by
  simp only [lowVal] at h
  split at h
  · simp only [Option.some.injEq] at h; subst h; simpa [RV]
  · cases h
 | .slice none 0 0, x, h => by simp only [lowVal, Option.some.injEq] at h; subst h; simp [RV]
 | .agg ⟨cs⟩, x, h => by
  simp only [lowVal] at h
  obtain ⟨xs, h1, rfl⟩ := Option.map_eq_some_iff.1 h
  simp only [RV]
  exact ⟨_, rfl, lowVals_sound h1⟩
 | .slice (some _) _ _, x, h => by simp [lowVal] at h
 | .slice none (_ + 1) _, x, h => by simp [lowVal] at h
 | .slice none 0 (_ + 1), x, h => by simp [lowVal] at h
 | .float _ _, x, h => by simp [lowVal] at h
 | .complex _ _ _, x, h => by simp [lowVal] at h
 | .string _, x, h => by simp [lowVal] at h
 | .pointer none, x, h => by simp only [lowVal, Option.some.injEq] at h; subst h; simp [RV]
 | .pointer (some _), x, h => by simp [lowVal] at h
 | .map _, x, h => by simp [lowVal] at h
 | .chan _, x, h => by simp [lowVal] at h
 | .func _ _ _, x, h => by simp [lowVal] at h
 | .nilFunc, x, h => by simp [lowVal] at h
 | .iface _ _, x, h => by simp [lowVal] at h
 | .nilIface, x, h => by simp [lowVal] at h
 | .tuple _, x, h => by simp [lowVal] at h
theorem lowVals_sound : ∀ {vs : List Value} {xs : List AV}, lowVals vs = some xs → RVs Φ n β xs vs
 | [], xs, h => by simp only [lowVals, Option.some.injEq] at h; subst h; simp [RVs]
 | v :: vs, xs, h => by
  simp only [lowVals] at h
  split at h
  · rename_i ho
    split at h
    · rename_i x xs' h1 h2
      simp only [Option.some.injEq] at h
      subst h
      simp only [RVs]
      exact ⟨v, vs, rfl, ho, lowVal_sound h1, lowVals_sound h2⟩
    · cases h
  · cases h
end
theorem lowOpd_sound (he : Env Φ n β env a) {x : Operand} {y : Opd} (h : lowOpd x = some y) : RV Φ n β (y.val env) (a.eval x) := by
 cases x with
 | tmp t => simp only [lowOpd, Option.some.injEq] at h; subst h; exact he.rel t
 | const v =>
  simp only [lowOpd] at h
  obtain ⟨x, h1, rfl⟩ := Option.map_eq_some_iff.1 h
  exact lowVal_sound h1
 | global g => simp [lowOpd] at h
 | func f => simp [lowOpd] at h
theorem lowOpds_sound (he : Env Φ n β env a) : ∀ {xs : List Operand} {ys : List Opd}, lowOpds xs = some ys → RVt Φ n β (ys.map (·.val env)) (xs.map a.eval)
 | [], ys, h => by simp only [lowOpds, Option.some.injEq] at h; subst h; simp [RVt]
 | x :: xs, ys, h => by
  simp only [lowOpds] at h
  split at h
  · rename_i y ys' h1 h2
    simp only [Option.some.injEq] at h
    subst h
    simp only [List.map_cons, RVt]
    exact ⟨_, _, rfl, lowOpd_sound he h1, lowOpds_sound he h2⟩
  · cases h
theorem RVs.one {x : AV} {v : Value} (h : RV Φ n β x v) (ho : v.oneCell' = true) : RVs Φ n β [x] [v] := by
 simp only [RVs]; exact ⟨v, [], rfl, ho, h, rfl⟩
theorem cells_sound {x : AV} {v : Value} {cs : List AV} (h : x.cells = some cs) (hx : RV Φ n β x v) : RVs Φ n β cs v.cells.toList := by
 cases x <;> simp only [AV.cells, Option.some.injEq, reduceCtorEq] at h <;> subst h
 case nil => have e := hx; simp only [RV] at e; subst e; exact RVs.one hx rfl
 case emp => have e := hx; simp only [RV] at e; obtain ⟨s, rfl⟩ := e; exact RVs.one hx rfl
 case bool b => have e := hx; simp only [RV] at e; subst e; exact RVs.one hx rfl
 case int k z => have e := hx; simp only [RV] at e; obtain ⟨rfl, _⟩ := e; exact RVs.one hx rfl
 case ptr r π o => have e := hx; simp only [RV] at e; obtain ⟨_, _, rfl⟩ := e; exact RVs.one hx rfl
 case sref r π o m sz => have e := hx; simp only [RV] at e; obtain ⟨_, s, cap, rfl, _⟩ := e; exact RVs.one hx rfl
 case bor m cs => have e := hx; simp only [RV] at e; obtain ⟨s, cap, vs, rfl, _⟩ := e; exact RVs.one hx rfl
 case bptr cs o => have e := hx; simp only [RV] at e; obtain ⟨s, p, vs, rfl, _⟩ := e; exact RVs.one hx rfl
 case agg vs => simp only [RV] at hx; obtain ⟨arr, rfl, h⟩ := hx; simpa [Value.cells] using h
theorem addr_add (b p o : Nat) : (⟨b, p, none⟩ : Addr).add o = ⟨b, p + o, none⟩ := by unfold Addr.add; split <;> simp_all
def Done (P : Program) (o : Oper) (a : Act) (Φ : Fz) (n : Nat) (β : Spots) (K : AV → Heap → Nat → Prop) (w : World) : Prop :=
 ∃ nx v w' β' x H' n', (execOp a.eval o).run P w = .ok nx w' ∧ (nx = .value v ∨ (nx = .skip ∧ v = undef)) ∧ K x H' n' ∧ n ≤ n' ∧ (∀ i, i < n → β' i = β i) ∧
  RV Φ n' β' x v ∧ RH Φ n' β' H' w' ∧ Keep Φ w' ∧ Below 0 w w'
def QDone (P : Program) (o : Oper) (a : Act) (Φ : Fz) (n : Nat) (β : Spots) (H : Heap) (K : AV → Heap → Nat → Prop) (w : World) : Prop :=
 ∃ v x, (∀ w', Below w.heap.size w w' → (execOp a.eval o).run P w' = .ok (.value v) w') ∧ RV Φ n β x v ∧ K x H n
theorem QDone.done {o : Oper} {K : AV → Heap → Nat → Prop} (hH : RH Φ n β H w) (hB : Keep Φ w) (h : QDone P o a Φ n β H K w) : Done P o a Φ n β K w :=
 let ⟨v, x, hr, hx, hK⟩ := h
 ⟨_, v, w, β, x, H, n, hr w (Below.refl _ _), .inl rfl, hK, Nat.le_refl _, fun _ _ => rfl, hx, hH, hB, Below.refl _ _⟩
theorem done_same {o : Oper} {K : AV → Heap → Nat → Prop} {x : AV} {v : Value} (hr : ∀ w', Below w.heap.size w w' → (execOp a.eval o).run P w' = .ok (.value v) w')
 (hx : RV Φ n β x v) (hK : K x H n) : QDone P o a Φ n β H K w := ⟨v, x, hr, hx, hK⟩
theorem done_alloc {o : Oper} {K : AV → Heap → Nat → Prop} (hH : RH Φ n β H w) (hB : Keep Φ w) {e : TypeId} {cur : Array Value} {cs : List AV} {v : Value} {x : AV}
 (hr : (execOp a.eval o).run P w = .ok (.value v) { w with heap := w.heap.push (.cells cur e (0, 0)) }) (hc : cs.length ≤ cur.size) (hv : RVs Φ n β cs (cur.toList.take cs.length))
 (hx : RV Φ (n + 1) (fun i => if i = n then fun _ => ⟨true, w.heap.size, cur.size⟩ else β i) x v) (hK : K x ((n, some ⟨e, cs⟩) :: H) (n + 1)) : Done P o a Φ n β K w :=
 ⟨_, v, _, _, x, _, n + 1, hr, .inl rfl, hK, Nat.le_succ _, fun i hi => by simp [show i ≠ n by omega], hx, hH.alloc hB hc hv, hB.alloc _, (Below.refl 0 w).alloc (Nat.zero_le _) _⟩
theorem cell_own {r : Nat} {π : List Nat} {t : Root} (hH : RH Φ n β H w) (hr : H.get r π = some t) (o : Nat) (ho : o < t.cs.length) :
 ∃ v, w.cell? ⟨(β r π).b, o, none⟩ = some v ∧ RV Φ n β ((refer r π 0 t.cs).getD o .unk) v ∧ v.oneCell' = true ∧ w.frozen? ⟨(β r π).b, o, none⟩ = false := by
 obtain ⟨h2, cur, h3, h4, h5, h6⟩ := hH.own hr (hH.full hr (by omega))
 have hg := h6.get o (by rw [refer_length]; exact ho)
 have e : (cur.toList.take t.cs.length).getD o undef = cur[o]'(by omega) := by
  simp [List.getD, List.getElem?_take, ho, show o < cur.size by omega]
 rw [e] at hg
 exact ⟨_, by simp [World.cell?, h3, show o < cur.size by omega], hg.1, hg.2, by simp [World.frozen?, h3]⟩
theorem cell_bor {cs : List AV} {s : Option Addr} {vs : List Value} (hB : Keep Φ w) (h1 : RowOf Φ s vs) (h2 : RVs Φ n β cs vs) (o : Nat) (ho : o < cs.length) :
 ∃ q v, s = some q ∧ w.cell? (q.add o) = some v ∧ RV Φ n β (cs.getD o .unk) v ∧ v.oneCell' = true := by
 have hl := h2.length
 rcases h1 with rfl | ⟨b, p, ar, e, fz, rfl, hb, hc⟩
 · simp at hl; omega
 · have hg := h2.get o ho
   refine ⟨_, _, rfl, ?_, hg.1, hg.2⟩
   rw [addr_add]
   have hb := hB _ _ hb
   have hc := hc o (by omega)
   simp only [World.cell?, hb, Option.isSome_none, Bool.false_eq_true, if_false]
   exact hc
theorem pick_sound {cs : List AV} {q : Addr} {o m : Nat} {ag : Bool} {t : TypeId} {inf : TypeInfo} (hag : aggB P t = some ag) (hi : P.info? t = some inf) (hm : inf.size = m) (ho : o + m ≤ cs.length) (h1 : ag = false → m = 1)
 (hc : ∀ j, j < cs.length → ∃ v, w.cell? (q.add j) = some v ∧ RV Φ n β (cs.getD j .unk) v ∧ v.oneCell' = true) :
 ∃ v, (∀ w', Below w.heap.size w w' → (Instr.loadAt t (.pointer (some (q.add o)))).run P w' = .ok v w') ∧ RV Φ n β (pickCells ag cs o m) v := by
 have hadd : ∀ j, (q.add o).add j = q.add (o + j) := fun j => by unfold Addr.add; by_cases h1 : o = 0 <;> by_cases h2 : j = 0 <;> simp [h1, h2, Nat.add_assoc]
 obtain ⟨u, hu, hue⟩ := Option.map_eq_some_iff.1 hag
 cases ag with
 | false =>
  have hm1 := h1 rfl
  obtain ⟨v, e1, e2, _⟩ := hc o (by omega)
  refine ⟨v, fun w' hw' => ?_, e2⟩
  have e1 : w'.cell? (q.add o) = some v := (hw'.cell (World.block_lt_of_cell? w _ e1)).trans e1
  have : (isAgg t).run P w' = .ok false w' := by
   unfold isAgg
   simp only [Sem.run_bind, run_underlying hu, Result.andThen_ok]
   cases u <;> simp_all
  simp [Instr.loadAt, Instr.sureAddr, loadVar, this, e1]
 | true =>
  have hia : ∀ w', (isAgg t).run P w' = .ok true w' := fun w' => by
   unfold isAgg
   simp only [Sem.run_bind, run_underlying hu, Result.andThen_ok]
   cases u <;> simp_all
  have hex : ∀ j, ∃ v, j < m → w.cell? ((q.add o).add j) = some v ∧ RV Φ n β (cs.getD (o + j) .unk) v ∧ v.oneCell' = true := fun j => by
   by_cases hj : j < m
   · obtain ⟨v, e1, e2, e3⟩ := hc (o + j) (by omega)
     exact ⟨v, fun _ => ⟨by rw [hadd]; exact e1, e2, e3⟩⟩
   · exact ⟨undef, fun h => absurd h hj⟩
  let f : Nat → Value := fun j => Classical.choose (hex j)
  have hf : ∀ j, j < m → w.cell? ((q.add o).add j) = some (f j) ∧ RV Φ n β (cs.getD (o + j) .unk) (f j) ∧ (f j).oneCell' = true := fun j hj => Classical.choose_spec (hex j) hj
  refine ⟨.agg ((List.range m).map f).toArray, fun w' hw' => ?_, ?_⟩
  · have hl := run_loadCells (P := P) w' (q.add o) m f (fun j hj => (hw'.cell (World.block_lt_of_cell? w _ (hf j hj).1)).trans (hf j hj).1)
    simp [Instr.loadAt, Instr.sureAddr, loadVar, hia, sizeOf, typeInfo, hi, hm, hl]
  · simp only [pickCells, RV]
    refine ⟨_, rfl, RVs.of_get (by simp; omega) fun i hi => ?_⟩
    simp only [List.length_take, List.length_drop] at hi
    have := hf i (by omega)
    simpa [List.getD, List.getElem?_take, List.getElem?_drop, List.getElem?_map, List.getElem?_range, show i < m by omega] using this.2
end
end Go.Proofs.Ytmjphjphgjmojaa
