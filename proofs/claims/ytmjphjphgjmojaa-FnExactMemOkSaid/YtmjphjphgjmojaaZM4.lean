/- Regions whose order is open: one walk in the text's order serves all orders. No program is named here. -/
import Derived.Test.YtmjphjphgjmojaaZM3
namespace Go.Proofs.Ytmjphjphgjmojaa
set_option linter.all false
open Go.RowKit
def undone (listed : Array Bool) (h : Nat) : List Nat := (List.range h).filter fun i => !listed.getD i true
theorem range_split {j h : Nat} (hj : j < h) : List.range h = List.range j ++ j :: (List.range' (j + 1) (h - (j + 1))) := by
 have h1 : h = j + (1 + (h - (j + 1))) := by omega
 conv => lhs; rw [h1]
 rw [List.range_add, Nat.add_comm 1, List.range_succ_eq_map]
 simp only [List.map_cons, List.map_map, Nat.add_zero]
 congr 2
 rw [List.range'_eq_map_range]
 apply List.map_congr_left
 intro a _
 simp only [Function.comp]
 omega
theorem undone_split {listed : Array Bool} {j h : Nat} (hj : j < h) (hl : listed.getD j true = false) (hs : j < listed.size) :
 ∃ pre post, undone listed h = pre ++ j :: post ∧ (∀ i ∈ pre, i < j ∧ listed.getD i true = false) ∧ undone (listed.setIfInBounds j true) h = pre ++ post := by
 refine ⟨(List.range j).filter fun i => !listed.getD i true, (List.range' (j + 1) (h - (j + 1))).filter fun i => !listed.getD i true, ?_, ?_, ?_⟩
 · unfold undone
   rw [range_split hj, List.filter_append, List.filter_cons, hl]
   rfl
 · intro i hi
   simp only [List.mem_filter, List.mem_range, Bool.not_eq_true'] at hi
   exact hi
 · unfold undone
   rw [range_split hj, List.filter_append, List.filter_cons]
   have hset : (listed.setIfInBounds j true).getD j true = true := by simp [Array.getD, hs]
   rw [hset]
   simp only [Bool.not_true, Bool.false_eq_true, if_false]
   congr 1
   · apply List.filter_congr
     intro i hi
     simp only [List.mem_range] at hi
     rw [getD_set_ne true (by omega)]
   · apply List.filter_congr
     intro i hi
     simp only [List.mem_range'] at hi
     obtain ⟨k, _, rfl⟩ := hi
     rw [getD_set_ne true (by omega)]
section
variable {P : Program} {w0 : World} {Φ0 : Fz} {n0 : Nat} {β0 : Spots} {ops : List Oper} {los : List LOper} {h : Nat} {K : DK} {Q : Exit → Act → World → Prop}
theorem edge_spec {i j : Nat} {o : Oper} (hj : ops[j]? = some o) (he : edgeB ops j i = true) : ∃ e ∈ o.after, e.on = i ∧ Region.binds .any e = true := by
 simp only [edgeB, hj, Array.any_eq_true'] at he
 obtain ⟨e, h1, h2⟩ := he
 simp only [Bool.and_eq_true, beq_iff_eq] at h2
 exact ⟨e, h1, h2.1, h2.2⟩
def Closed (ops : List Oper) (listed : Array Bool) : Prop := ∀ k o, ops[k]? = some o → listed.getD k true = true → ∀ e ∈ o.after, Region.binds .any e = true → listed.getD e.on false = true
theorem getD_both {listed : Array Bool} {i : Nat} (h : listed.getD i false = true) : listed.getD i true = true := by
 rcases Nat.lt_or_ge i listed.size with h1 | h1
 · simpa [Array.getD, h1] using h
 · simp [Array.getD, Nat.not_lt.2 h1]
theorem reachB_spec {listed : Array Bool} (hc : Closed ops listed) : ∀ (i : Nat) (S : List Nat), (∀ k ∈ S, ∀ i', edgeB ops k i' = true → listed.getD i' false = true) → reachB ops i S = true → ∀ i', i' < i → listed.getD i' true = true
 | 0, _, _, _, i', hi => by omega
 | i + 1, S, hS, h, i', hi => by
  simp only [reachB, Bool.and_eq_true, List.any_eq_true] at h
  obtain ⟨⟨k, hk, he⟩, h2⟩ := h
  have hl := hS k hk i he
  by_cases e : i' = i
  · subst e; exact getD_both hl
  · refine reachB_spec hc i (i :: S) (fun k' hk' j hj => ?_) h2 i' (by omega)
    rcases List.mem_cons.1 hk' with rfl | hk'
    · cases ho : ops[k']? with
      | none => simp [edgeB, ho] at hj
      | some o =>
       obtain ⟨ed, h3, rfl, h4⟩ := edge_spec ho hj
       exact hc k' o ho (getD_both hl) ed h3 h4
    · exact hS k' hk' j hj
theorem bound_spec {listed : Array Bool} (hc : Closed ops listed) : ∀ (n : Nat) (S : List Nat), (∀ k ∈ S, ∀ i', edgeB ops k i' = true → listed.getD i' false = true) → ∀ x ∈ bound ops n S, x ∈ S ∨ listed.getD x true = true
 | 0, _, _, x, hx => .inl hx
 | i + 1, S, hS, x, hx => by
  unfold bound at hx
  split at hx
  · rename_i he
    simp only [List.any_eq_true] at he
    obtain ⟨k, hk, he⟩ := he
    have hl := hS k hk i he
    have hS' : ∀ k ∈ i :: S, ∀ i', edgeB ops k i' = true → listed.getD i' false = true := fun k' hk' j hj => by
     rcases List.mem_cons.1 hk' with rfl | hk'
     · cases ho : ops[k']? with
       | none => simp [edgeB, ho] at hj
       | some o =>
        obtain ⟨ed, h3, rfl, h4⟩ := edge_spec ho hj
        exact hc k' o ho (getD_both hl) ed h3 h4
     · exact hS k' hk' j hj
    rcases bound_spec hc i (i :: S) hS' x hx with h | h
    · rcases List.mem_cons.1 h with rfl | h
      · exact .inr (getD_both hl)
      · exact .inl h
    · exact .inr h
  · exact bound_spec hc i S hS x hx
theorem pair_ok (hok : drawOk ops los h = true) {i j : Nat} (hij : i < j) (hj : j < los.length) :
 edgeB ops j i = true ∨ ∃ a b, los[i]? = some a ∧ los[j]? = some b ∧ a.free b = true ∧ b.free a = true ∧ ((a.op.chain && b.op.chain) = false ∨ i ∈ bound ops j [j]) := by
 simp only [drawOk, Bool.and_eq_true, List.all_eq_true, List.mem_range] at hok
 have h1 := (hok.2 j hj).2 i hij
 simp only [Bool.and_eq_true, Bool.or_eq_true] at h1
 rcases h1.2 with h1 | h1
 · exact .inl h1
 · right
   split at h1
   · rename_i a b ha hb
     simp only [Bool.and_eq_true, Bool.or_eq_true, Bool.not_eq_true', List.contains_iff_mem] at h1
     exact ⟨a, b, ha, hb, h1.1.1, h1.1.2, h1.2⟩
   · cases h1
theorem pair_dst (hok : drawOk ops los h = true) {i j : Nat} (hij : i < j) (hj : j < los.length) : ∃ a b, los[i]? = some a ∧ los[j]? = some b ∧ ∀ d, a.dst = some d → b.dst ≠ some d := by
 simp only [drawOk, Bool.and_eq_true, List.all_eq_true, List.mem_range] at hok
 have h1 := (hok.2 j hj).2 i hij
 have h2 := h1.1
 split at h2
 · rename_i a b ha hb
   refine ⟨a, b, ha, hb, fun d hd => ?_⟩
   rw [hd] at h2
   simp only [Option.isNone_some, Bool.false_or, bne_iff_ne, ne_eq] at h2
   exact fun e => h2 e.symm
 · cases h2
theorem chain_done (hok : drawOk ops los h = true) {listed : Array Bool} (hc : Closed ops listed) : ∀ (j : Nat) (o : Oper), ops[j]? = some o → j < los.length → (∀ e ∈ o.after, Region.binds .any e = true → listed.getD e.on false = true) → chainAt los j = true →
 ∀ i, i < j → chainAt los i = true → listed.getD i true = true := by
 intro j
 induction j using Nat.strongRecOn with
 | _ j ih =>
  intro o hj hjl hr hcj i hij hci
  have edge : ∀ k, edgeB ops j k = true → listed.getD k false = true := fun k hk => by
   obtain ⟨e, h1, rfl, h3⟩ := edge_spec hj hk
   exact hr e h1 h3
  rcases pair_ok hok hij hjl with h1 | ⟨a, b, ha, hb, _, _, h2 | h2⟩
  · exact getD_both (edge i h1)
  · simp only [chainAt, ha] at hci
    simp only [chainAt, hb] at hcj
    rw [hci, hcj] at h2
    cases h2
  · rcases bound_spec hc j [j] (fun k hk i' he => by rw [List.mem_singleton.1 hk] at he; exact edge i' he) i h2 with h3 | h3
    · rw [List.mem_singleton.1 h3] at hij; omega
    · exact h3
theorem los_len {l : List Oper} : ∀ {x : List Oper} {y : List LOper}, lowOpers P l x = some y → y.length = x.length
 | [], y, h => by simp only [lowOpers, Option.some.injEq] at h; subst h; rfl
 | o :: x, y, h => by
  simp only [lowOpers] at h
  split at h
  · cases h; simp only [List.length_cons]; rw [los_len (by assumption)]
  · cases h
theorem los_get {l : List Oper} : ∀ {x : List Oper} {y : List LOper}, lowOpers P l x = some y → ∀ (i : Nat) (o : Oper), x[i]? = some o → ∃ lo, y[i]? = some lo ∧ lowOper P l o = some lo
 | [], y, h, i, o, hi => by simp at hi
 | o' :: x, y, h, i, o, hi => by
  simp only [lowOpers] at h
  split at h
  · rename_i lo los' h1 h2
    cases h
    cases i with
    | zero => simp only [List.getElem?_cons_zero, Option.some.injEq] at hi; subst hi; exact ⟨lo, by simp, h1⟩
    | succ i => simpa using los_get h2 i o (by simpa using hi)
  · cases h
def Ended (P : Program) (tail : List LOper) (Q : Post) : DK := fun env H n fs => match fs with
 | none => xops P (Q .normal) tail env H n
 | some (d, e, z) => xops P (Q .normal) tail (put env (some d) (.ptr n [] 0)) ((n, some ⟨e, z⟩) :: H) (n + 1)
theorem draw_any (hlow : lowOpers P ops ops = some los) (hok : drawOk ops los h = true) {env0 : Nat} (hdst : ∀ lo ∈ los, isFresh lo.op = true → ∀ d, lo.dst = some d → d < env0)
 (hend : ∀ env H n fs Φ β a w, n0 ≤ n → (∀ i, i < n0 → β i = β0 i) → RelF w0 Φ0 Φ n β env H fs a w → K env H n fs → wpList P ops.toArray Q (ops.drop h) a w) :
 ∀ (fuel : Nat) (listed : Array Bool) (a : Act) (w : World), listed.size = ops.length → Closed ops listed → (undone listed ops.length).length ≤ fuel → (∀ j, h ≤ j → j < ops.length → listed.getD j true = false) →
  (∃ Φ β env H n fs, n0 ≤ n ∧ (∀ i, i < n0 → β i = β0 i) ∧ env.length = env0 ∧ RelF w0 Φ0 Φ n β env H fs a w ∧ (∀ d e z, fs = some (d, e, z) → ∀ i ∈ undone listed h, ∀ lo, los[i]? = some lo → lo.dst ≠ some d) ∧
   xds P K ((undone listed h).map fun i => los.getD i ⟨none, .mv (.c .unk), none⟩) [H] [] env H n fs) →
  wpAny P .any ops.toArray Q fuel listed a w := by
 have hll := los_len hlow
 have hlh : los.length = h ∨ los.length = h + 1 := by
  simp only [drawOk, Bool.and_eq_true, Bool.or_eq_true, beq_iff_eq] at hok
  exact hok.1.2
 intro fuel
 induction fuel with
 | zero =>
  intro listed a w hsz hc hf htail ⟨Φ, β, env, H, n, fs, k1, k2, k3, k4, k5, k6⟩
  have hnil : undone listed ops.length = [] := List.length_eq_zero_iff.1 (by omega)
  have hall : ∀ i, i < ops.length → listed.getD i true = true := fun i hi => by
   cases e : listed.getD i true with
   | true => rfl
   | false =>
    have : i ∈ undone listed ops.length := by simp only [undone, List.mem_filter, List.mem_range, hi, e]; exact ⟨trivial, rfl⟩
    rw [hnil] at this; cases this
  have hhl : ops.length ≤ h := Nat.le_of_not_lt fun hlt => by
   have := htail h (Nat.le_refl _) hlt
   rw [hall h hlt] at this; cases this
  have hu : undone listed h = [] := by
   rw [undone, List.filter_eq_nil_iff]
   intro i hi
   simp only [List.mem_range] at hi
   have : listed.getD i true = true := hall i (by omega)
   simp [this]
  rw [hu] at k6
  have := hend env H n fs Φ β a w k1 k2 k4 k6
  rw [List.drop_eq_nil_of_le hhl] at this
  refine ⟨?_, this⟩
  rw [List.eq_nil_iff_forall_not_mem]
  intro j hj
  obtain ⟨h1, o, h2, _⟩ := mem_ready.1 hj
  have hjl : j < ops.length := by simpa using (Array.getElem?_eq_some_iff.1 h2).1
  rw [hall j hjl] at h1; cases h1
 | succ fuel ih =>
  intro listed a w hsz hc hf htail ⟨Φ, β, env, H, n, fs, k1, k2, k3, k4, k5, k6⟩
  have hready : ∀ j o, ops[j]? = some o → (∀ e ∈ o.after, Region.binds .any e = true → listed.getD e.on false = true) → ∀ i, i < j → listed.getD i true = false → edgeB ops j i = false := by
   intro j o hj hr i _ hi
   cases e : edgeB ops j i with
   | false => rfl
   | true =>
    obtain ⟨ed, h1, rfl, h3⟩ := edge_spec hj e
    have := getD_both (hr ed h1 h3)
    rw [hi] at this; cases this
  refine ⟨fun hnone => ?_, fun j hj => ?_⟩
  · -- nothing is ready: all is done
    have hall : ∀ i, i < ops.length → listed.getD i true = true := by
     intro i
     induction i using Nat.strongRecOn with
     | _ i ihi =>
      intro hi
      cases e : listed.getD i true with
      | true => rfl
      | false =>
       exfalso
       have hmem : i ∈ Region.ready .any ops.toArray listed := by
        rw [mem_ready]
        refine ⟨e, ops[i], by simp [hi], fun ed hed hb => ?_⟩
        simp only [drawOk, Bool.and_eq_true, List.all_eq_true, List.mem_range] at hok
        have h1 := (hok.2 i (by omega)).1.1
        rw [List.getElem?_eq_getElem hi] at h1
        simp only [Array.all_eq_true_iff_forall_mem] at h1
        have h2 := h1 ed hed
        simp only [hb, Bool.not_true, Bool.false_or, decide_eq_true_eq] at h2
        have h3 := ihi ed.on h2 (by omega)
        have hlt : ed.on < listed.size := by omega
        simpa [Array.getD, hlt] using h3
       rw [hnone] at hmem; cases hmem
    have hhl : ops.length ≤ h := Nat.le_of_not_lt fun hlt => by
     have := htail h (Nat.le_refl _) hlt
     rw [hall h hlt] at this; cases this
    have hu : undone listed h = [] := by
     rw [undone, List.filter_eq_nil_iff]
     intro i hi
     simp only [List.mem_range] at hi
     have : listed.getD i true = true := hall i (by omega)
     simp [this]
    rw [hu] at k6
    have := hend env H n fs Φ β a w k1 k2 k4 k6
    rw [List.drop_eq_nil_of_le hhl] at this
    exact this
  · obtain ⟨hjun, o, ho, hr⟩ := mem_ready.1 hj
    have ho' : ops[j]? = some o := by simpa using ho
    have hjl : j < ops.length := (List.getElem?_eq_some_iff.1 ho').1
    obtain ⟨lo, hlo, hlow1⟩ := los_get hlow j o ho'
    have hset : (listed.setIfInBounds j true).size = ops.length := by simp [hsz]
    have hclosed : Closed ops (listed.setIfInBounds j true) := by
     intro k ok hk hkd e he hb
     by_cases hkj : k = j
     · subst hkj
       rw [ho'] at hk; cases hk
       exact getD_set_true (hr e he hb)
     · rw [getD_set_ne true (fun e => hkj e.symm)] at hkd
       exact getD_set_true (hc k ok hk hkd e he hb)
    obtain ⟨apre, apost, as1, as2, as3⟩ := undone_split hjl hjun (by omega)
    have hfuel : (undone (listed.setIfInBounds j true) ops.length).length ≤ fuel := by
     rw [as3]; rw [as1] at hf
     simp only [List.length_append, List.length_cons] at hf ⊢
     omega
    by_cases hjh : j < h
    · obtain ⟨pre, post, s1, s2, s3⟩ := undone_split hjh hjun (by omega)
      rw [s1, List.map_append, List.map_cons] at k6
      have hgj : los.getD j ⟨none, .mv (.c .unk), none⟩ = lo := by simp [List.getD, hlo]
      rw [hgj] at k6
      have hcond : ∀ i ∈ pre.map (fun i => los.getD i ⟨none, .mv (.c .unk), none⟩), i.free lo = true ∧ lo.free i = true ∧ (i.op.chain && lo.op.chain) = false := by
       intro li hli
       obtain ⟨i, hi, rfl⟩ := List.mem_map.1 hli
       obtain ⟨hij, hiu⟩ := s2 i hi
       rcases pair_ok hok hij (by omega) with h1 | ⟨x, y, hx, hy, h2, h3, h4⟩
       · rw [hready j o ho' hr i hij hiu] at h1; cases h1
       · rw [hlo] at hy; cases hy
         have hgi : los.getD i ⟨none, .mv (.c .unk), none⟩ = x := by simp [List.getD, hx]
         rw [hgi]
         refine ⟨h2, h3, ?_⟩
         cases e : (x.op.chain && lo.op.chain) with
         | false => rfl
         | true =>
          simp only [Bool.and_eq_true] at e
          have := chain_done hok hc j o ho' (by omega) hr (by simp [chainAt, hlo, e.2]) i hij (by simp [chainAt, hx, e.1])
          rw [hiu] at this; cases this
      obtain ⟨x, H', n', fs', t1, t2, t3⟩ := pull _ [H] [] env H n fs hcond (by simp) k6
      have hx : xds P K ((pre ++ post).map fun i => los.getD i ⟨none, .mv (.c .unk), none⟩) [H'] [] (put env lo.dst x) H' n' fs' := by
       rw [List.map_append]
       cases hm : moves env lo with
       | true => exact xds_mono (fun h0 hh => by simp only [List.mem_singleton] at hh; subst hh; simp) (fun _ hk => hk) (t2 hm).2
       | false =>
        obtain ⟨rfl, rfl, _, t4⟩ := t3 hm
        exact t4
      have hmemj : j ∈ undone listed h := by rw [s1]; simp
      refine step_drawn ho' hlow1 k4 t1 (fun d e z hfs => k5 d e z hfs j hmemj lo hlo) (fun hf d hd => by rw [k3]; exact hdst lo (List.mem_of_getElem? hlo) hf d hd) fun v Φ' β' w' g1 g2 g3 g4 => ?_
      have hoj : (o.dst : Option Nat) = lo.dst := (lowOper_spec hlow1).2.2.1.symm
      refine ih (listed.setIfInBounds j true) _ w' hset hclosed hfuel (fun k hk hkl => ?_) ⟨Φ', β', put env lo.dst x, H', n', fs', Nat.le_trans k1 g1, fun i hi => (g2 i (Nat.lt_of_lt_of_le hi k1)).trans (k2 i hi), by rw [← k3]; cases lo.dst <;> simp [put], g4, ?_, ?_⟩
      · rw [getD_set_ne true (by omega)]; exact htail k hk hkl
      · intro d e z hfs i hi li hli
        rw [s3] at hi
        have hi0 : i ∈ undone listed h := by
         rw [s1]
         rcases List.mem_append.1 hi with h1 | h1
         · exact List.mem_append_left _ h1
         · exact List.mem_append_right _ (List.mem_cons_of_mem _ h1)
        cases hf1 : fresh1 env lo with
        | false =>
         obtain ⟨e1, _⟩ := t1.fresh hf1
         rw [e1] at hfs
         exact k5 d e z hfs i hi0 li hli
        | true =>
         have hd : lo.dst = some d := by
          simp only [Stp] at t1
          split at t1
          · split at t1
            · rename_i hop; simp [fresh1, isFresh, hop] at hf1
            · split at t1
              · rename_i d' hd'
                rw [t1.2.2.2] at hfs
                cases hfs
                exact hd'
              · exact t1.elim
            · rename_i a1 a2
              simp only [fresh1, Bool.and_eq_true] at hf1
              cases hop : lo.op <;> rw [hop] at hf1 <;> simp [isFresh] at hf1
              exact (a2 _ _ hop).elim
          · rename_i hg; simp [fresh1, hg] at hf1
          · exact t1.elim
         have hij : i ≠ j := by
          rintro rfl
          rw [← s3] at hi
          simp only [undone, List.mem_filter, Bool.not_eq_true'] at hi
          have : (listed.setIfInBounds i true).getD i true = true := by simp [Array.getD, show i < listed.size by omega]
          rw [this] at hi
          cases hi.2
         have hil : i < los.length := (List.getElem?_eq_some_iff.1 hli).1
         have hiun : listed.getD i true = false := by
          simp only [undone, List.mem_filter, Bool.not_eq_true'] at hi0
          exact hi0.2
         rcases Nat.lt_or_ge i j with hlt | hge
         · obtain ⟨p, q, hp, hq, h2⟩ := pair_dst hok hlt (by omega)
           rw [hli] at hp; cases hp
           rw [hlo] at hq; cases hq
           exact fun e2 => h2 d e2 hd
         · obtain ⟨p, q, hp, hq, h2⟩ := pair_dst hok (show j < i by omega) hil
           rw [hli] at hq; cases hq
           rw [hlo] at hp; cases hp
           exact h2 d hd
      · rw [s3]; exact hx
    · -- the last one
      have hjeq : j = h := by omega
      subst hjeq
      have hlen : ops.length = j + 1 := by omega
      have hall : ∀ i, i < j → listed.getD i true = true := fun i hi => by
       simp only [drawOk, Bool.and_eq_true, List.all_eq_true, List.mem_range] at hok
       have h1 := (hok.2 j (by omega)).1.2
       rw [if_pos (Nat.le_refl _)] at h1
       refine reachB_spec hc j [j] (fun k hk i' he => ?_) h1 i hi
       rw [List.mem_singleton] at hk
       subst hk
       obtain ⟨ed, h2, rfl, h3⟩ := edge_spec ho' he
       exact hr ed h2 h3
      have hu : undone listed j = [] := by
       rw [undone, List.filter_eq_nil_iff]
       intro i hi
       simp only [List.mem_range] at hi
       simp [hall i hi]
      rw [hu] at k6
      have h1 := hend env H n fs Φ β a w k1 k2 k4 k6
      have hdrop : ops.drop j = [o] := by
       rw [List.drop_eq_getElem_cons hjl, List.drop_eq_nil_of_le (by omega)]
       rw [List.getElem?_eq_getElem hjl] at ho'
       cases ho'; rfl
      rw [hdrop] at h1
      have hdone : ∀ a' w', Q .normal a' w' → wpAny P .any ops.toArray Q fuel (listed.setIfInBounds j true) a' w' := fun a' w' hq => by
       refine wpAny_done ?_ hq fuel
       rw [List.eq_nil_iff_forall_not_mem]
       intro k hk
       obtain ⟨c1, ok, c2, _⟩ := mem_ready.1 hk
       have hkl : k < ops.length := by simpa using (Array.getElem?_eq_some_iff.1 c2).1
       by_cases hkj : j = k
       · subst hkj
         have : (listed.setIfInBounds j true).getD j true = true := by simp [Array.getD, show j < listed.size by omega]
         rw [this] at c1; cases c1
       · rw [getD_set_ne true hkj, hall k (by omega)] at c1; cases c1
      unfold wpOp
      simp only [ho]
      unfold wpList at h1
      split
      · rename_i hw
        simp only [hw, if_true] at h1
        exact h1.imp (Oper.wp_mono fun a' w' hq => hdone a' w' hq) id
      · rename_i hw
        simp only [hw] at h1
        exact hdone _ _ h1
def freshB (l : Nat) : List LOper → Bool
 | [] => true
 | o :: os => (match isFresh o.op, o.dst with | true, some d => decide (d < l) | _, _ => true) && freshB l os
theorem freshB_spec {l : Nat} : ∀ {os : List LOper}, freshB l os = true → ∀ lo ∈ os, isFresh lo.op = true → ∀ d, lo.dst = some d → d < l
 | [], _, lo, hm, _, _, _ => by cases hm
 | o :: os, h, lo, hm, hf, d, hd => by
  simp only [freshB, Bool.and_eq_true] at h
  rcases List.mem_cons.1 hm with rfl | hm
  · have := h.1
    rw [hf, hd] at this
    simpa using this
  · exact freshB_spec h.2 lo hm hf d hd
theorem Aw.regd {Q : Post} {env : List AV} {H : Heap} {n m : Nat} {head tail : List LOper} (hb : freshB env.length (head ++ tail) = true) (h : xds P (Ended P tail Q) head [H] [] env H n none) : Aw P m (.regd head tail) Q env H n := by
 intro cc hcc w0 Φ β a w hm hR
 cases cc <;> simp only [lowCode, Option.some.injEq, reduceCtorEq] at hcc
 case region id os draw =>
  obtain ⟨ops, rfl⟩ : ∃ l : List Oper, os = l.toArray := ⟨os.toList, by simp⟩
  have key : ∀ (los : List LOper) (k : Nat), lowOpers P ops ops = some los → drawOk ops los k = true → head = los.take k → tail = los.drop k → draw = true → ¬ P.follows .mixedOrders = false → (Code.region id ops.toArray draw).wp P (After w0 Φ m β Q) a w := by
   intro los k g1 g2 e1 e2 e3 g3
   subst e1; subst e2; subst e3
   rw [List.take_append_drop] at hb
   have hR' : Rel w0 Φ n β env H a { w with drawn := w.drawn + 1 } := hR.later (Below.drew (Below.refl _ _))
   obtain ⟨t1, t2⟩ := lowOpers_take k ops los g1
   have hll := los_len g1
   have hk : los.length = k ∨ los.length = k + 1 := by
    simp only [drawOk, Bool.and_eq_true, Bool.or_eq_true, beq_iff_eq] at g2
    exact g2.1.2
   have hund : undone (Array.replicate ops.toArray.size false) k = List.range k := by
    unfold undone
    rw [List.filter_eq_self]
    intro i hi
    simp only [List.mem_range] at hi
    simp [Array.getD, show i < ops.length by omega]
   have hmap : ((List.range k).map fun i => los.getD i ⟨none, .mv (.c .unk), none⟩) = los.take k := by
    apply List.ext_getElem?
    intro i
    simp only [List.getElem?_map, List.getElem?_take]
    by_cases hi : i < k
    · rw [List.getElem?_range hi, if_pos hi]
      simp [List.getD, show i < los.length by omega]
    · rw [if_neg hi]; simp [hi]
   refine wp_region_any (by simpa using g3) ?_
   refine draw_any (P := P) (w0 := w0) (Φ0 := Φ) (n0 := m) (β0 := β) (K := Ended P (los.drop k) Q) (env0 := env.length) g1 g2 (freshB_spec hb) ?_ _ _ a _ (by simp) ?_ ?_ ?_ ⟨Φ, β, env, H, n, none, hm, fun _ _ => rfl, rfl, ⟨hR', Fz.le_refl Φ, trivial⟩, (fun _ _ _ e => nomatch e), ?_⟩
   · intro env2 H2 n2 fs2 Φ2 β2 a2 w2 k1 k2 k3 k4
     have fin : ∀ Φ3 β3 env3 H3 n3, m ≤ n3 → (∀ i, i < m → β3 i = β i) → Φ.le Φ3 → Rel w0 Φ3 n3 β3 env3 H3 a2 w2 → xops P (Q .normal) (los.drop k) env3 H3 n3 → wpList P ops.toArray (After w0 Φ m β Q) (ops.drop k) a2 w2 := by
      intro Φ3 β3 env3 H3 n3 c1 c2 c3 c4 c5
      exact xops_sound (ops := ops) (ops.drop k) _ Φ3 n3 β3 env3 H3 a2 w2 t2 c4 c5 (Q := After w0 Φ m β Q) fun env' H' n' Φ' β' a' w' d1 d2 d3 d4 d5 => ⟨.normal, env', H', n', Φ', β', rfl, d1, Nat.le_trans c1 d2, fun i hi => (d3 i (Nat.lt_of_lt_of_le hi c1)).trans (c2 i hi), c3.trans d4, d5⟩
     cases fs2 with
     | none => exact fin Φ2 β2 env2 H2 n2 k1 k2 k3.le k3.rel k4
     | some p =>
      obtain ⟨d, e, z⟩ := p
      obtain ⟨Φ3, β3, c1, c2, c3⟩ := k3.link
      exact fin Φ3 β3 _ _ _ (Nat.le_succ_of_le k1) (fun i hi => (c2 i (Nat.lt_of_lt_of_le hi k1)).trans (k2 i hi)) c1 c3 k4
   · intro j o hj hjd
     have hjl : j < ops.length := (List.getElem?_eq_some_iff.1 hj).1
     simp [Array.getD, hjl] at hjd
   · simp only [List.size_toArray]
     unfold undone
     exact Nat.le_trans (List.length_filter_le _ _) (by simp)
   · intro j _ hj
     simp [Array.getD, hj]
   · rw [hund, hmap]; exact h
  unfold lowRegion at hcc
  split at hcc
  · rename_i los g1
    split at hcc
    · cases hcc
    · rename_i hd
      obtain rfl : draw = true := by cases draw <;> simp_all
      split at hcc
      · cases hcc
      · rename_i hmo
        split at hcc
        · cases hcc
        · split at hcc
          · cases hcc
          · split at hcc
            · rename_i hok
              cases hcc
              exact key los (los.length - 1) (by simpa using g1) (by simpa using hok) rfl rfl rfl hmo
            · split at hcc
              · rename_i hok
                cases hcc
                exact key head head.length (by simpa using g1) (by simpa using hok) (by simp) (by simp) rfl hmo
              · split at hcc <;> cases hcc
  · cases hcc
 case seq => split at hcc <;> simp at hcc
 case cond => split at hcc <;> simp at hcc
 all_goals simp at hcc
end
end Go.Proofs.Ytmjphjphgjmojaa
