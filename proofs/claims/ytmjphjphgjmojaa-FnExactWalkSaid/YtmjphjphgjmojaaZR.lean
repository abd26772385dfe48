/- The machine with trees: a callee that is handed places of own memory, and what becomes of the caller's memory. No program is named here. -/
import Derived.Test.YtmjphjphgjmojaaZP
namespace Go.Proofs.Ytmjphjphgjmojaa
set_option linter.all false
open Go.RowKit
def keys (H : Heap) : List Nat := H.map Prod.fst
theorem mem_keys {r : Nat} : ∀ {H : Heap}, (H.get1 r).isSome = true → r ∈ keys H
 | [], h => by simp [Heap.get1] at h
 | (k, t) :: H, h => by
  simp only [Heap.get1] at h
  split at h
  · rename_i e; subst e; simp [keys]
  · have := mem_keys h
    simp only [keys, List.map_cons, List.mem_cons] at this ⊢
    exact .inr this
theorem nodup_keys {ρ : Nat → Option Nat} : ∀ {l : List Nat}, nodupB (l.map ρ) = true → ∀ r ∈ l, ∀ r' ∈ l, ∀ j, ρ r = some j → ρ r' = some j → r = r'
 | [], _, _, h, _, _, _, _, _ => by cases h
 | x :: l, hn, r, hr, r', hr', j, e, e' => by
  have hn2 : nodupB (l.map ρ) = true := by
   simp only [List.map_cons] at hn
   cases h : ρ x <;> simp_all [nodupB]
  have no : ∀ y ∈ l, ρ x = some j → ρ y ≠ some j := by
   intro y hy hx hy2
   simp only [List.map_cons, hx, nodupB, Bool.and_eq_true, Bool.not_eq_true', List.contains_eq_mem, decide_eq_false_iff_not] at hn
   exact hn.1 (by rw [← hy2]; exact List.mem_map_of_mem hy)
  rcases List.mem_cons.1 hr with e1 | h1 <;> rcases List.mem_cons.1 hr' with e2 | h2
  · rw [e1, e2]
  · rw [e1] at e; exact absurd e' (no r' h2 e)
  · rw [e2] at e'; exact absurd e (no r h1 e')
  · exact nodup_keys hn2 r h1 r' h2 j e e'
theorem Ent.list2 {m n n2 : Nat} {xs2 xs : List AV} {H2 H : Heap} (L : List (Option Nat)) (hd : nodupB ((keys H2).map (rho L)) = true) (hp : prefB m L = true) (h2 : m ≤ n2) (h3 : Rens (rho L) n2 xs2 xs) (h4 : HS (rho L) n2 H H2) : Ent m xs2 H2 n2 xs H n :=
 Ent.sub (rho L) (fun i hi => by
  simp only [prefB, List.all_eq_true, List.mem_range, beq_iff_eq] at hp
  exact hp i hi) h2 h3 ⟨h4.root, fun r r' j h1 h2 e1 e2 => nodup_keys hd r (mem_keys h1) r' (mem_keys h2) j e1 e2⟩
theorem Inl.start {P : Program} {f : FuncId} {lf : LFun} {args : List AV} {H0 Hr : Heap} {r : AV} {m k : Nat} (hl : lowFun P f = some lf) (ls rs : List Nat) {E : List AV} {H1 : Heap} (hE : forget ls 0 (args ++ List.replicate (lf.ntmps - args.length) .und) = E) (hH : H0.norm rs = H1)
 (h : Aw P m lf.body (Gives m r Hr k lf.res) E H1 m) : Inl P f args H0 m r Hr k := by
 refine Inl.of_aw hl ?_
 refine Aw.tidy ls rs ?_
 rw [hE, hH]
 exact h
section
variable {Φ Φ' : Fz} {n n' : Nat} {β β' : Spots} {H H' : Heap} {w w' : World}
theorem RVt.ren0 {ρ : Nat → Option Nat} {n2 : Nat} {xs ys : List AV} {vs : List Value} (h : Rens ρ n2 xs ys) (k : RVt Φ n β ys vs) : RVt Φ n2 (renS ρ β) xs vs := RVt.ren h k
theorem RH.side {A B : Heap} (hA : RH Φ n β A w) (hB : RH Φ n β B w) (hab : ∀ r, A.has r = true → B.get1 r = none)
 (hsep : ∀ r π r' π', (A.get r π).isSome = true → (B.get r' π').isSome = true → (β r π).ex = true → (β r' π').ex = true → (β r π).b ≠ (β r' π').b) : RH Φ n β (A ++ B) w := by
 have key : ∀ r π t, Heap.get (A ++ B) r π = some t → A.get r π = some t ∨ B.get r π = some t := by
  intro r π t h
  cases e : A.has r with
  | true =>
   left
   rw [← h]
   exact (get_of_get1 (by rw [get1_append, e]; rfl) π).symm
  | false =>
   right
   rw [← h]
   exact (get_of_get1 (by rw [get1_append, e]; rfl) π).symm
 refine ⟨fun r π t h => (key r π t h).elim (hA.root r π t) (hB.root r π t), fun r π r' π' h1 h2 hx hx' he => ?_⟩
 obtain ⟨t, ht⟩ := Option.isSome_iff_exists.1 h1
 obtain ⟨t', ht'⟩ := Option.isSome_iff_exists.1 h2
 rcases key r π t ht with a | a <;> rcases key r' π' t' ht' with b | b
 · exact hA.apart r π r' π' (by simp [a]) (by simp [b]) hx hx' he
 · exact absurd he (hsep r π r' π' (by simp [a]) (by simp [b]) hx hx')
 · exact absurd he.symm (hsep r' π' r π (by simp [b]) (by simp [a]) hx' hx)
 · exact hB.apart r π r' π' (by simp [a]) (by simp [b]) hx hx' he
end
def rhoB (pl : List Nat) (m k n i : Nat) : Option Nat := match pl.idxOf? i with
 | some j => some j
 | none => if n ≤ i then some (i - n + m) else some (k + 1 + i)
def killed (pl : List Nat) (H : Heap) : Heap := pl.map (fun r => (r, none)) ++ H
theorem killed_get1 {pl : List Nat} {H : Heap} {r : Nat} : (killed pl H).get1 r = if r ∈ pl then none else H.get1 r := by
 unfold killed
 induction pl with
 | nil => simp
 | cons p pl ih =>
  simp only [List.map_cons, List.cons_append, Heap.get1, List.mem_cons]
  by_cases e : p = r
  · simp [e]
  · rw [if_neg e, ih]
    by_cases h : r ∈ pl
    · simp [h]
    · have : ¬ r = p := fun x => e x.symm
      simp [h, this]
theorem killed_get {pl : List Nat} {H : Heap} {r : Nat} {π : List Nat} {t : Root} (h : (killed pl H).get r π = some t) : r ∉ pl ∧ H.get r π = some t := by
 have h1 : r ∉ pl := by
  intro hm
  have : (killed pl H).get r [] = none := by show (killed pl H).get1 r = none; rw [killed_get1, if_pos hm]
  have := get_dead this π
  rw [List.append_nil] at this
  rw [this] at h; cases h
 refine ⟨h1, ?_⟩
 rw [← h]
 exact (get_of_get1 (by rw [killed_get1, if_neg h1]) π).symm
theorem idxOf_some : ∀ {pl : List Nat} {i j : Nat}, pl.idxOf? i = some j → pl[j]? = some i
 | [], i, j, h => by simp at h
 | p :: pl, i, j, h => by
  rw [List.idxOf?_cons] at h
  split at h
  · rename_i e; cases h; simpa using e
  · obtain ⟨j', h1, rfl⟩ := Option.map_eq_some_iff.1 h
    simpa using idxOf_some h1
theorem Inl.frame {P : Program} {f : FuncId} {args args' : List AV} {H H0 Hp Hp' : Heap} {v v' : AV} {m k n n' : Nat} (pl : List Nat) (hc : Inl P f args H0 m v Hp k)
 (hm : pl.length = m) (hn : ∀ r ∈ pl, r < n) (hnn : n' = n + (k - m))
 (ha : Rens (fun i => pl[i]?) m args args') (h0 : HSub (fun i => pl[i]?) m H0 H)
 (hv : Ren (rhoB pl m k n) n' v' v) (hh : HSub (rhoB pl m k n) n' Hp' Hp) (hk : ∀ r, Hp'.has r = true → r ∈ pl ∨ n ≤ r) :
 Inl P f args' H n v' (Hp' ++ killed pl H) n' := by
 intro Φ w β vs hK hH hvs
 have a1 : RVt Φ m (renS (fun i => pl[i]?) β) args vs := RVt.ren ha hvs
 have a2 : RH Φ m (renS (fun i => pl[i]?) β) H0 w := hH.ren h0
 let mine : Nat → Prop := fun b => ∃ r π t, r ∈ pl ∧ H.get r π = some t ∧ (β r π).ex = true ∧ (β r π).b = b
 let Φ0 : Fz := fun b => open Classical in if mine b then none else Φ.all w false b
 have z1 : ∀ b, mine b → Φ0 b = none := fun b h => by simp only [Φ0]; rw [if_pos h]
 have z2 : ∀ b, ¬ mine b → Φ0 b = Φ.all w false b := fun b h => by simp only [Φ0]; rw [if_neg h]
 have z3 : ∀ b, mine b → Φ b = none := by
  rintro b ⟨r, π, t, _, h2, h3, rfl⟩
  exact (hH.own h2 h3).1
 have le0 : Φ.le Φ0 := fun b x h => by
  rw [z2 b (fun hm => by rw [z3 b hm] at h; cases h)]
  exact Fz.le_all b x h
 have keep0 : Keep Φ0 w := fun b x h => by
  by_cases hb : mine b
  · rw [z1 b hb] at h; cases h
  · rw [z2 b hb] at h; exact hK.all b x h
 have a3 : RVt Φ0 m (renS (fun i => pl[i]?) β) args vs := a1.more le0 (Nat.le_refl _) fun _ _ => rfl
 have inH : ∀ r π t, H0.get r π = some t → (renS (fun i => pl[i]?) β r π).ex = true → mine (renS (fun i => pl[i]?) β r π).b := by
  intro r π t hr hx
  obtain ⟨_, hcase⟩ := h0.node hr
  rcases hcase with ⟨e, rfl, _⟩ | ⟨j, t', e, hj, _, _⟩
  · have e' : pl[r]? = none := e
    simp [renS, e'] at hx
  · have e' : pl[r]? = some j := e
    simp only [renS, e'] at hx ⊢
    exact ⟨j, π, t', List.mem_of_getElem? e', hj, hx, rfl⟩
 have a4 : RH Φ0 m (renS (fun i => pl[i]?) β) H0 w := a2.kept le0 (Nat.le_refl _) (fun _ _ => rfl) (fun r π t hr hx => z1 _ (inH r π t hr hx)) fun _ _ _ _ _ => rfl
 refine (hc Φ0 w _ vs keep0 a4 a3).mono fun e w' ⟨u, Φ1, β1, he, g1, g2, g3, g4, g5, g6, g7⟩ => ?_
 generalize hΦ2 : (fun b => match Φ1 b with | some (true, o) => some (true, o) | _ => Φ b : Fz) = Φ2
 have h2 : ∀ b, Φ2 b = match Φ1 b with | some (true, o) => some (true, o) | _ => Φ b := fun b => by rw [← hΦ2]
 have up : ∀ b x, Φ b = some x → Φ1 b = some x := fun b x h => g3 b x (le0 b x h)
 have le2 : Φ.le Φ2 := fun b x h => by
  rw [h2, up b x h]
  obtain ⟨fl, o⟩ := x
  cases fl
  · exact h
  · rfl
 have tle2 : Φ1.tle Φ2 := fun b o h => by rw [h2, h]
 have keep2 : Keep Φ2 w' := fun b x h => by
  rw [h2] at h
  split at h
  · rename_i o ho; cases h; exact g4 b _ ho
  · exact g4 b x (up b x h)
 generalize hβ : (fun i => if i < k then β1 i else β (i - (k + 1)) : Spots) = β1'
 have l1 : ∀ i, i < k → β1' i = β1 i := fun i hi => by rw [← hβ]; simp [hi]
 have l2 : ∀ i, β1' (k + 1 + i) = β i := fun i => by
  rw [← hβ]; simp only []; rw [if_neg (by omega)]; congr 1; omega
 have g5' : RV Φ1 (k + 1 + n) β1' v u := g5.more (Fz.le_refl _) (by omega) l1
 have g6' : RH Φ1 (k + 1 + n) β1' Hp w' := g6.kept (Fz.le_refl _) (by omega) l1 (fun r π t hr hx => (g6.own hr hx).1) fun _ _ _ _ _ => rfl
 have b3 : ∀ i, i < n → renS (rhoB pl m k n) β1' i = β i := fun i hi => by
  funext π
  cases h : pl.idxOf? i with
  | some j =>
   have hj := idxOf_some h
   have hjm : j < m := by rw [← hm]; exact (List.getElem?_eq_some_iff.1 hj).1
   have e : rhoB pl m k n i = some j := by unfold rhoB; rw [h]
   simp only [renS, e]
   rw [l1 j (Nat.lt_of_lt_of_le hjm g1), g2 j hjm]
   simp [renS, hj]
  | none =>
   have e : rhoB pl m k n i = some (k + 1 + i) := by unfold rhoB; rw [h]; simp only []; rw [if_neg (by omega)]
   simp only [renS, e]
   rw [l2]
 have c0 : RH Φ1 n' (renS (rhoB pl m k n) β1') Hp' w' := g6'.ren hh
 have c2 : RH Φ2 n' (renS (rhoB pl m k n) β1') Hp' w' := by
  refine ⟨fun r π t h => ?_, c0.apart⟩
  obtain ⟨d1, d2⟩ := c0.root r π t h
  refine ⟨d1, d2.imp id fun ⟨e1, e2, cur, e3, e4, e5, e6⟩ => ⟨e1, ?_, cur, e3, e4, e5, e6.moreT tle2 (Nat.le_refl _) fun _ _ => rfl⟩⟩
  rw [h2, e2]
  show Φ _ = none
  cases hphi : Φ (renS (rhoB pl m k n) β1' r π).b with
  | none => rfl
  | some x => rw [up _ x hphi] at e2; cases e2
 have rest : ∀ r π t, (killed pl H).get r π = some t → (β r π).ex = true → ∃ o, w.heap[(β r π).b]? = some o ∧ Φ1 (β r π).b = some (false, o) ∧ Φ (β r π).b = none := by
  intro r π t hr hx
  obtain ⟨d1, d2⟩ := killed_get hr
  obtain ⟨e1, cur, e2, _⟩ := hH.own d2 hx
  refine ⟨_, e2, ?_, e1⟩
  refine g3 _ _ ?_
  rw [z2]
  · simp [Fz.all, e1, e2]
  · rintro ⟨r', π', t', f1, f2, f3, f4⟩
    obtain ⟨rfl, _⟩ := hH.apart r' π' r π (by simp [f2]) (by simp [d2]) f3 hx f4
    exact d1 f1
 have c3 : RH Φ2 n' (renS (rhoB pl m k n) β1') (killed pl H) w' := by
  refine (hH.less (H2 := killed pl H) fun r π t h => (killed_get h).2).kept le2 (by omega) b3 (fun r π t hr hx => ?_) fun r π t hr hx => ?_
  · obtain ⟨o, _, e2, e3⟩ := rest r π t hr hx
    rw [h2, e2]; exact e3
  · obtain ⟨o, e1, e2, _⟩ := rest r π t hr hx
    rw [e1]; exact g4 _ _ e2
 refine ⟨u, Φ2, renS (rhoB pl m k n) β1', he, by omega, b3, le2, keep2, (RV.ren hv g5').moreT tle2 (Nat.le_refl _) fun _ _ => rfl, RH.side c2 c3 (fun r hr => ?_) fun r π r' π' k1 k2 hx hx' he => ?_, g7⟩
 · rw [killed_get1]
   rcases hk r hr with h | h
   · rw [if_pos h]
   · split
     · rfl
     · cases e : H.get1 r with
       | none => rfl
       | some t => have := (hH.root r [] t e).1; omega
 · obtain ⟨t, ht⟩ := Option.isSome_iff_exists.1 k1
   obtain ⟨t', ht'⟩ := Option.isSome_iff_exists.1 k2
   have hlt : r' < n := (hH.root r' π' t' (killed_get ht').2).1
   rw [b3 r' hlt] at hx' he
   obtain ⟨o, e1, e2, _⟩ := rest r' π' t' ht' hx'
   have := (c0.own ht hx).1
   rw [he, e2] at this
   cases this
theorem HSub.of {ρ : Nat → Option Nat} {n2 : Nat} {H2 H : Heap} (hd : nodupB ((keys H2).map ρ) = true) (h : HS ρ n2 H H2) : HSub ρ n2 H2 H :=
 ⟨h.root, fun r r' j h1 h2 e1 e2 => nodup_keys hd r (mem_keys h1) r' (mem_keys h2) j e1 e2⟩
theorem has_keys : ∀ {H : Heap} {r : Nat}, H.has r = true → r ∈ keys H
 | [], _, h => by simp [Heap.has] at h
 | (k, t) :: H, r, h => by
  simp only [Heap.has, Bool.or_eq_true, beq_iff_eq] at h
  rcases h with h | h
  · subst h; simp [keys]
  · have := has_keys h
    simp only [keys, List.map_cons, List.mem_cons] at this ⊢
    exact .inr this
def placed (pl : List Nat) (n : Nat) (H : Heap) : Bool := (keys H).all fun r => pl.contains r || Nat.ble n r
theorem placed_spec {pl : List Nat} {n : Nat} {H : Heap} (h : placed pl n H = true) (r : Nat) (hr : H.has r = true) : r ∈ pl ∨ n ≤ r := by
 simp only [placed, List.all_eq_true, Bool.or_eq_true, List.contains_eq_mem, decide_eq_true_eq, Nat.ble_eq] at h
 exact h r (has_keys hr)
def below (pl : List Nat) (n : Nat) : Bool := pl.all fun r => Nat.blt r n
section
variable {P : Program} {env : List AV} {H H' : Heap} {n n' : Nat} {K : AV → Heap → Nat → Prop}
theorem op_callf {f : FuncId} {as : List Opd} {args args' : List AV} {H0 Hp Hp' : Heap} {v v' : AV} {m k : Nat} (pl : List Nat) (hc : Inl P f args H0 m v Hp k) (hs : as.map (·.val env) = args')
 (hm : pl.length = m) (hn : below pl n = true) (hnn : n' = n + (k - m)) (ha : Rens (fun i => pl[i]?) m args args') (hd0 : nodupB ((keys H0).map (fun i => pl[i]?)) = true) (h0 : HS (fun i => pl[i]?) m H H0)
 (hv : Ren (rhoB pl m k n) n' v' v) (hd : nodupB ((keys Hp').map (rhoB pl m k n)) = true) (hh : HS (rhoB pl m k n) n' Hp Hp') (hk : placed pl n Hp' = true)
 (hK : Hld (K v' (Hp' ++ killed pl H) n')) : Hld (yop P env H n K (.call f as)) :=
 op_calli (hs ▸ Inl.frame pl hc hm (fun r hr => by
  simp only [below, List.all_eq_true] at hn
  have := hn r hr
  simp only [Nat.blt, Nat.ble_eq] at this; omega) hnn ha (HSub.of hd0 h0) hv (HSub.of hd hh) (placed_spec hk)) hK
theorem agr_callf {pl M : List Nat} {n0 : Nat} {Hp' : Heap} (h1 : pl.all (fun r => M.contains r || Nat.ble n0 r) = true) (h2 : (keys Hp').all (fun r => M.contains r || Nat.ble n0 r) = true) : Agr M n0 H (Hp' ++ killed pl H) := by
 intro r hr hm
 simp only [List.all_eq_true, Bool.or_eq_true, Nat.ble_eq] at h1 h2
 have a : Hp'.has r = false := by
  cases e : Hp'.has r with
  | false => rfl
  | true =>
   rcases h2 r (has_keys e) with h | h
   · rw [h] at hm; cases hm
   · omega
 rw [get1_append, a]
 simp only [Bool.false_eq_true, if_false]
 rw [killed_get1, if_neg]
 intro hp
 rcases h1 r hp with h | h
 · rw [h] at hm; cases hm
 · omega
end
end Go.Proofs.Ytmjphjphgjmojaa
