/- Shifts, structs that are compared, checks for nil, max and min, and copy, in the machine with trees. No program is named here. -/
import Derived.Test.YtmjphjphgjmojaaZF4
import Derived.Laws.StructEq
import Derived.Laws.CopyOwn
namespace Go.Proofs.Ytmjphjphgjmojaa
set_option linter.all false
open Go.RowKit
section
variable {P : Program} {Φ : Fz} {n : Nat} {β : Spots} {env : List AV} {H : Heap} {a : Act} {w : World} {K : AV → Heap → Nat → Prop}
theorem fdiv_fits {k : IntKind} {a : Int} {m : Nat} (ha : k.min ≤ a ∧ a ≤ k.max) : k.min ≤ a.fdiv (2 ^ m) ∧ a.fdiv (2 ^ m) ≤ k.max := by
 have hm := min_max k
 have hp : (0 : Int) < 2 ^ m := Int.pow_pos (by omega)
 rw [Int.fdiv_eq_ediv_of_nonneg a (by omega)]
 generalize (2 : Int) ^ m = d at hp
 rcases Int.le_total 0 a with h | h
 · have h1 := Int.ediv_nonneg h (by omega : 0 ≤ d)
   have h2 := Int.ediv_le_self d h
   omega
 · have h1 : a ≤ a / d := by
    rw [Int.le_ediv_iff_mul_le hp]
    have := Int.mul_le_mul_of_nonpos_left (a := a) (b := d) (c := 1) h (by omega)
    omega
   have h2 : a / d ≤ 0 := by
    have := Int.ediv_le_ediv hp h
    simpa using this
   omega
theorem do_sh {o : Oper} {left : Bool} {op : BinOp} {t t' : TypeId} {x y : Operand} {x' y' : Opd} (ho : o.op = .binOp op t x y t') (hop : op = match left with | true => .shl | false => .shr) (hx : lowOpd x = some x') (hy : lowOpd y = some y')
 (he : Env Φ n β env a) (h : xop P env H n K (.sh left x' y')) : QDone P o a Φ n β H K w := by
 have h0 := lowOpd_sound he hx
 have h1 := lowOpd_sound he hy
 simp only [xop] at h
 split at h
 · rename_i k z k' z' e1 e2
   rw [e1] at h0
   rw [e2] at h1
   simp only [RV] at h0 h1
   obtain ⟨hz, hK⟩ := h
   have hn : ¬ z' < 0 := by omega
   subst hop
   have hg : ∀ (op : BinOp) w', (eqGuard op t x y (.int k z) (.int k' z')).run P w' = .ok () w' := fun op w' => by
    unfold eqGuard; cases op <;> simp
   cases left
   · exact done_same (v := .int k (z.fdiv (2 ^ (min z'.toNat k.bits)))) (fun w' _ => by simp [execOp, ho, h0.1, h1.1, hg, binOp, Op.shift, hn]) (by simp only [RV]; exact ⟨trivial, fdiv_fits h0.2⟩) hK
   · exact done_same (v := .int k (k.wrap (z * 2 ^ (min z'.toNat k.bits)))) (fun w' _ => by simp [execOp, ho, h0.1, h1.1, hg, binOp, Op.shift, hn]) (by simp [RV, wrap_within]) hK
 · exact h.elim
theorem do_nck {o : Oper} {x : Operand} {x' : Opd} (ho : o.op = .nilCheck x) (hx : lowOpd x = some x') (he : Env Φ n β env a) (h : xop P env H n K (.nck x')) : QDone P o a Φ n β H K w := by
 have h0 := lowOpd_sound he hx
 simp only [xop] at h
 split at h
 · rename_i r π p e1
   rw [e1] at h0
   have hv := h0
   simp only [RV] at h0
   refine done_same (v := a.eval x) (fun w' _ => ?_) hv h
   simp [execOp, ho, h0.2.2]
 · rename_i cs p e1
   rw [e1] at h0
   have hv := h0
   simp only [RV] at h0
   obtain ⟨s, q, vs, h4, _⟩ := h0
   refine done_same (v := a.eval x) (fun w' _ => ?_) hv h
   simp [execOp, ho, h4]
 · exact h.elim
theorem do_mx {o : Oper} {most : Bool} {x y : Operand} {x' y' : Opd} {ats : Array TypeId} (ho : o.op = .call { callee := .builtin (match most with | true => .max | false => .min), args := ⟨[x, y]⟩, argTypes := ats }) (hx : lowOpd x = some x') (hy : lowOpd y = some y')
 (he : Env Φ n β env a) (h : xop P env H n K (.mx most x' y')) : QDone P o a Φ n β H K w := by
 have h0 := lowOpd_sound he hx
 have h1 := lowOpd_sound he hy
 simp only [xop] at h
 split at h
 · rename_i k z k' z' e1 e2
   rw [e1] at h0
   rw [e2] at h1
   simp only [RV] at h0 h1
   obtain ⟨rfl, hK⟩ := h
   cases most
   · refine done_same (v := .int k (min z z')) (fun w' _ => ?_) (by simp only [RV]; exact ⟨trivial, by omega, by omega⟩) hK
     have : (if z' < z then z' else z) = min z z' := by omega
     simp [execOp, ho, resolve, invoke, builtin, h0.1, h1.1, Builtin.min_, Builtin.min2, this]
   · refine done_same (v := .int k (max z z')) (fun w' _ => ?_) (by simp only [RV]; exact ⟨trivial, by omega, by omega⟩) hK
     have : (if z < z' then z' else z) = max z z' := by omega
     simp [execOp, ho, resolve, invoke, builtin, h0.1, h1.1, Builtin.max_, Builtin.max2, this]
 · exact h.elim
theorem eqAt_sound {d : Nat} {xs ys : List AV} {vs us : Array Value} (hx : RVs Φ n β xs vs.toList) (hy : RVs Φ n β ys us.toList) : ∀ (fs : List Field) (b : Bool), fs.all (plainField P) = true → eqAt xs ys (fs.map (fieldAt P)) = some b →
 (Op.eqFields (d + 1) vs us fs).run P w = .ok b w
 | [], b, _, h => by
  simp only [List.map_nil, eqAt, Option.some.injEq] at h
  subst h
  simp [Op.eqFields]
 | f :: fs, b, hp, h => by
  simp only [List.all_cons, Bool.and_eq_true] at hp
  obtain ⟨hf, hp⟩ := hp
  simp only [plainField, Bool.and_eq_true, bne_iff_ne, ne_eq] at hf
  obtain ⟨hname, hty⟩ := hf
  simp only [List.map_cons, fieldAt, eqAt] at h
  have hlx := hx.length
  have hly := hy.length
  simp only [Array.length_toList] at hlx hly
  have part_run : ∀ (cs : Array Value) (off : Nat) (v : Value), cs[off]? = some v → (part f.type cs off).run P w = .ok v w := by
   intro cs off v hv
   have hia : (isAgg f.type).run P w = .ok false w := by
    unfold isAgg
    cases hu : P.underlying f.type with
    | none => rw [hu] at hty; simp at hty
    | some u =>
     simp only [Sem.run_bind, run_underlying hu, Result.andThen_ok]
     rw [hu] at hty
     cases u <;> simp_all
   simp only [part, Sem.run_bind, hia, Result.andThen_ok]
   simp [hv]
  have getx : ∀ {zs : List AV} {ws : Array Value}, RVs Φ n β zs ws.toList → ∀ {x : AV}, zs.getD f.offset .unk = x → x ≠ .unk → ∃ v, ws[f.offset]? = some v ∧ RV Φ n β x v := by
   intro zs ws hz x hxx hne
   have hl := hz.length
   simp only [Array.length_toList] at hl
   have hlt : f.offset < zs.length := by
    rcases Nat.lt_or_ge f.offset zs.length with h1 | h1
    · exact h1
    · exfalso; apply hne; rw [← hxx]; simp [List.getD, Nat.not_lt.2 h1]
   have := (hz.get f.offset hlt).1
   rw [hxx] at this
   refine ⟨ws[f.offset]'(by omega), by simp [hl, hlt], ?_⟩
   simpa [List.getD, hl, hlt] using this
  split at h
  · rename_i k1 z1 k2 z2 r e0 e1 e2 e3
    split at h
    case isFalse => cases h
    rename_i hkk
    subst hkk
    simp only [Option.some.injEq] at h
    subst h
    obtain ⟨v1, g1, g2⟩ := getx hx e1 (by simp)
    obtain ⟨v2, g3, g4⟩ := getx hy e2 (by simp)
    simp only [RV] at g2 g4
    obtain ⟨rfl, _⟩ := g2
    obtain ⟨rfl, _⟩ := g4
    have ih := eqAt_sound (d := d) hx hy fs r hp e3
    simp only [Op.eqFields, ne_eq, hname, not_false_eq_true, if_true, Sem.run_bind, part_run _ _ _ g1, part_run _ _ _ g3, Result.andThen_ok]
    have hq : (Op.equalIn (d + 1) f.type (.int k1 z1) (.int k1 z2)).run P w = .ok (z1 == z2) w := by
     cases hu : P.underlying f.type with
     | none => rw [hu] at hty; simp at hty
     | some u =>
      rw [hu] at hty e0
      cases u <;> simp only [Bool.false_eq_true, reduceCtorEq] at hty e0
      simp [Op.equalIn, run_underlying hu]
    rw [hq]
    simp only [Result.andThen_ok]
    by_cases hz : z1 = z2
    · simp [hz, ih]
    · simp [hz]
  · rename_i b1 b2 r e0 e1 e2 e3
    simp only [Option.some.injEq] at h
    subst h
    obtain ⟨v1, g1, g2⟩ := getx hx e1 (by simp)
    obtain ⟨v2, g3, g4⟩ := getx hy e2 (by simp)
    simp only [RV] at g2 g4
    subst g2
    subst g4
    have ih := eqAt_sound (d := d) hx hy fs r hp e3
    simp only [Op.eqFields, ne_eq, hname, not_false_eq_true, if_true, Sem.run_bind, part_run _ _ _ g1, part_run _ _ _ g3, Result.andThen_ok]
    have hq : (Op.equalIn (d + 1) f.type (.bool b1) (.bool b2)).run P w = .ok (b1 == b2) w := by
     cases hu : P.underlying f.type with
     | none => rw [hu] at hty; simp at hty
     | some u =>
      rw [hu] at hty e0
      cases u <;> simp only [Bool.false_eq_true, reduceCtorEq] at hty e0
      simp [Op.equalIn, run_underlying hu]
    rw [hq]
    simp only [Result.andThen_ok]
    by_cases hz : b1 = b2
    · simp [hz, ih]
    · simp [hz]
  · cases h
theorem do_beq {o : Oper} {ng : Bool} {op : BinOp} {t t' : TypeId} {fs : Array Field} {x y : Operand} {x' y' : Opd} (ho : o.op = .binOp op t x y t') (ht : P.underlying t = some (.struct fs)) (hp : plainStruct P t fs = true) (hop : op = match ng with | true => .neq | false => .eql)
 (hx : lowOpd x = some x') (hy : lowOpd y = some y') (he : Env Φ n β env a) (h : xop P env H n K (.beq ng (fs.toList.map (fieldAt P)) x' y')) : QDone P o a Φ n β H K w := by
 have h0 := lowOpd_sound he hx
 have h1 := lowOpd_sound he hy
 simp only [plainStruct, Bool.and_eq_true, Bool.not_eq_true'] at hp
 obtain ⟨⟨hp1, hp2⟩, hp3⟩ := hp
 have hfs : P.fieldsOf t = fs := by simp [Program.fieldsOf, ht]
 simp only [xop] at h
 split at h
 · rename_i xs ys e1 e2
   rw [e1] at h0
   rw [e2] at h1
   simp only [RV] at h0 h1
   obtain ⟨vs, g1, g2⟩ := h0
   obtain ⟨us, g3, g4⟩ := h1
   split at h
   · rename_i r hr
     subst hop
     have hq : ∀ w', (Op.equalIn 10000 t (.agg vs) (.agg us)).run P w' = .ok r w' := fun w' => by
      show (Op.equalIn (9998 + 1 + 1) t _ _).run P w' = _
      rw [run_equalIn_struct (P := P) w' (9998 + 1) t vs us (by rw [hfs]; exact ht) hp2, hfs]
      exact eqAt_sound (P := P) (w := w') g2 g4 fs.toList r hp1 hr
     cases ng
     · exact done_same (v := .bool r) (fun w' _ => by simp only [execOp, ho, g1, g3, Sem.run_bind, run_eqGuard_agg w' .eql t x y vs us hp3, Result.andThen_ok, run_eql_struct, hq, Sem.run_pure]) (by simp [RV]) h
     · exact done_same (v := .bool (!r)) (fun w' _ => by simp only [execOp, ho, g1, g3, Sem.run_bind, run_eqGuard_agg w' .neq t x y vs us hp3, Result.andThen_ok, run_neq_struct, hq, Sem.run_pure]) (by simp [RV]) h
   · exact h.elim
 · exact h.elim
theorem do_cpy {o : Oper} {t t2 e : TypeId} {x y : Operand} {x' y' : Opd} {inf : TypeInfo} (ho : o.op = .call { callee := .builtin .copy, args := ⟨[x, y]⟩, argTypes := ⟨[t, t2]⟩ }) (ht : P.underlying t = some (.slice e)) (hi : P.info? e = some inf) (hpos : 0 < inf.size)
 (hx : lowOpd x = some x') (hy : lowOpd y = some y') (he : Env Φ n β env a) (hH : RH Φ n β H w) (hB : Keep Φ w) (h : xop P env H n K (.cpy inf.size x' y')) : Done P o a Φ n β K w := by
 have h0 := lowOpd_sound he hx
 have h1 := lowOpd_sound he hy
 simp only [xop] at h
 split at h
 · rename_i m2 ds hrd
   obtain ⟨s2, c2, vs, e1, hmc, hrow, hvs, hdl⟩ := readPart_sound hH hB hrd h1
   have hvl := hvs.length
   have hrun : ∀ v' w', (Builtin.copy_ #[t, t2] o.type #[a.eval x, a.eval y]).run P w = .ok v' w' → (execOp a.eval o).run P w = .ok (.value v') w' := fun v' w' h => by
    simp [execOp, ho, resolve, invoke, builtin, h]
   have hnil : ∀ s d c, a.eval x = .slice s d c → Nat.min m2 d = 0 → (execOp a.eval o).run P w = .ok (.value (.int .i64 0)) w := fun s d c hs hm => by
    have hl : ∀ (q : Addr), (loadCells q 0).run P w = .ok #[] w := fun q => by simpa using run_loadCells_list (P := P) w q [] (by simp)
    refine hrun _ _ ?_
    rw [hs, e1]
    cases s <;> cases s2 <;> simp [Builtin.copy_, run_underlying ht, Builtin.lenOf, Builtin.firstCells, sizeOf, typeInfo, hi, hm, storeCells, hl, goInt]
   split at h
   · rename_i r π p m sz' ev
     rw [ev] at h0
     simp only [RV] at h0
     obtain ⟨hrn, s, cap, q1, q2, q3, q4⟩ := h0
     split at h
     · rename_i t' hr
       obtain ⟨⟨rfl, hlen⟩, hK⟩ := h
       by_cases hz : min m m2 = 0
       · rw [hz] at hK
         simp only [Nat.zero_mul, List.take_zero, setCells] at hK
         refine ⟨.value (.int .i64 0), _, w, β, .int .i64 0, _, n, hnil s m cap q1 (by rw [← hz]; exact Nat.min_comm _ _), .inl rfl, by simpa using hK, Nat.le_refl _, fun _ _ => rfl, by simp [RV, IntKind.min, IntKind.max, IntKind.signed, IntKind.bits], hH.congr fun r' π' => put_self hr r' π', hB, Below.refl _ _⟩
       · rcases q4 with ⟨rfl, _⟩ | ⟨hex, rfl, q5⟩
         · simp at hz
         · rcases hrow with e2 | ⟨b, q, rfl, hcell⟩
           · subst e2
             simp only [List.length_nil] at hvl
             have : m2 * inf.size = 0 := by omega
             rcases Nat.mul_eq_zero.1 this with h | h <;> omega
           · have hkle : min m m2 * inf.size ≤ m2 * inf.size := Nat.mul_le_mul_right _ (Nat.min_le_right _ _)
             have hkle2 : min m m2 * inf.size ≤ m * inf.size := Nat.mul_le_mul_right _ (Nat.min_le_left _ _)
             have hld : (loadCells ⟨b, q, none⟩ (min m m2 * inf.size)).run P w = .ok (vs.take (min m m2 * inf.size)).toArray w := by
              have := run_loadCells_list (P := P) w ⟨b, q, none⟩ (vs.take (min m m2 * inf.size)) (fun j v hj => by
               have hj' := (List.getElem?_eq_some_iff.1 hj).1
               simp only [List.length_take] at hj'
               rw [addr_add, hcell j (by omega)]
               rw [List.getElem?_take, if_pos (by omega)] at hj
               simp [List.getD, hj])
              rwa [List.length_take, Nat.min_eq_left (by omega)] at this
             have hvt := hvs.take (min m m2 * inf.size)
             obtain ⟨w', r1, r2, r3, r4⟩ := storeCells_sound (P := P) (r := r) (o := p) (π := π) (ds.take (min m m2 * inf.size)) (vs.take (min m m2 * inf.size)) 0 t' H w hH hB hr (by simp only [List.length_take]; omega) hvt
             refine ⟨.value (.int .i64 (min m m2 : Nat)), _, w', β, .int .i64 (min m m2 : Nat), _, n, hrun _ _ ?_, .inl rfl, hK, Nat.le_refl _, fun _ _ => rfl, ?_, by simpa using r2, r3, r4⟩
             · rw [q1, e1]
               have hmin : Nat.min m2 m = min m m2 := Nat.min_comm _ _
               simp [Builtin.copy_, run_underlying ht, Builtin.lenOf, Builtin.firstCells, sizeOf, typeInfo, hi, hmin, hld, r1, goInt]
             · unfold maxLen at q3
               have hmc2 : min m m2 ≤ m := Nat.min_le_left _ _
               simp only [RV, IntKind.min, IntKind.max, IntKind.signed, IntKind.bits]
               refine ⟨trivial, by simp <;> omega, by simp <;> omega⟩
     · exact h.elim
   · rename_i ev
     rw [ev] at h0
     simp only [RV] at h0
     exact ⟨.value (.int .i64 0), _, w, β, .int .i64 0, H, n, hnil none 0 0 h0 (Nat.min_zero _), .inl rfl, h, Nat.le_refl _, fun _ _ => rfl, by simp [RV, IntKind.min, IntKind.max, IntKind.signed, IntKind.bits], hH, hB, Below.refl _ _⟩
   · rename_i ev
     rw [ev] at h0
     simp only [RV] at h0
     obtain ⟨s0, h0⟩ := h0
     exact ⟨.value (.int .i64 0), _, w, β, .int .i64 0, H, n, hnil s0 0 0 h0 (Nat.min_zero _), .inl rfl, h, Nat.le_refl _, fun _ _ => rfl, by simp [RV, IntKind.min, IntKind.max, IntKind.signed, IntKind.bits], hH, hB, Below.refl _ _⟩
   · exact h.elim
 · exact h.elim
end
end Go.Proofs.Ytmjphjphgjmojaa
