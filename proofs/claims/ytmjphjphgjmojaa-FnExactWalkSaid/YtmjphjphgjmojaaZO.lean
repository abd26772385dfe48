/- The machine with trees, walked by reckoning: code, loops by their steps, rows of data, calls, answers. No program is named here. -/
import Derived.Test.YtmjphjphgjmojaaZN
namespace Go.Proofs.Ytmjphjphgjmojaa
set_option linter.all false
open Go.RowKit
section
variable {P : Program} {Q Q' : Post} {env : List AV} {H : Heap} {n m : Nat} {ops : List LOper} {b x y : LCode}
theorem Aw.condT {c : Opd} {t : Bool} (hc : c.val env = .bool t) (ht : t = true) (h : Aw P m x Q env H n) : Aw P m (.cond c x y) Q env H n :=
 Aw.cond hc (fun _ => h) (fun e => by rw [ht] at e; cases e)
theorem Aw.condF {c : Opd} {t : Bool} (hc : c.val env = .bool t) (ht : t = false) (h : Aw P m y Q env H n) : Aw P m (.cond c x y) Q env H n :=
 Aw.cond hc (fun e => by rw [ht] at e; cases e) (fun _ => h)
theorem Aw.xskip (hQ : ∀ env H n, Aw P m b Q' env H n → Q .normal env H n) (h : Aw P m b Q' env H n) : Aw P m .skip Q env H n := Aw.skip (hQ _ _ _ h)
theorem Aw.xexit {i : Nat} (hQ : ∀ env H n, Aw P m b Q' env H n → Q (.exit i) env H n) (h : Aw P m b Q' env H n) : Aw P m (.exit i) Q env H n := Aw.exit (hQ _ _ _ h)
theorem Aw.xreg (ls rs : List Nat) (hQ : ∀ env H n, Aw P m b Q' env H n → Q .normal env H n) (h : Hld (yops P (TK ls rs (Aw P m b Q')) ops env H n)) : Aw P m (.reg false ops) Q env H n :=
 Aw.reg (xops_mono (fun env H n h => hQ _ _ _ (Aw.ent (Ent.tidy ls rs) h)) (yops_xops h.un))
theorem Aw.xregq (ls : List Nat) (hQ : ∀ env H n, Aw P m b Q' env H n → Q .normal env H n) (h : Hld (yqs P H n (TQ ls fun env' => Aw P m b Q' env' H n) ops env)) : Aw P m (.reg true ops) Q env H n :=
 Aw.regq (xqs_mono (fun _ h => hQ _ _ _ (Aw.ent (fun Φ β _ _ hm hK hH hv => ⟨Φ, β, hm, fun _ _ => rfl, Fz.le_refl Φ, hK, hH, hv.forget⟩) h)) (yqs_xqs h.un))
theorem Aw.xregt (ls rs : List Nat) {tail : List LOper} (hQ : ∀ env H n, Aw P m b Q' env H n → Q .normal env H n) (h : Hld (yqs P H n (TT P tail (TK ls rs (Aw P m b Q')) H n) ops env)) : Aw P m (.regt ops tail) Q env H n :=
 Aw.regt (xqs_mono (fun _ h => xops_mono (fun _ _ _ h => hQ _ _ _ (Aw.ent (Ent.tidy ls rs) h)) (yops_xops h)) (yqs_xqs h.un))
theorem Aw.xregd (ls rs M : List Nat) {tail : List LOper} (hQ : ∀ env H n, Aw P m b Q' env H n → Q .normal env H n) (hb : freshB env.length (ops ++ tail) = true) (h : Hld (yds P M n (TD P tail (TK ls rs (Aw P m b Q'))) ops env H n none)) : Aw P m (.regd ops tail) Q env H n :=
 Aw.regd hb (yds_xds H (fun _ _ _ _ h => td_ended (fun _ _ _ h => hQ _ _ _ (Aw.ent (Ent.tidy ls rs) h)) h) (fun h0 hm => by simp only [List.mem_singleton] at hm; subst hm; exact Agr.refl) Agr.refl (fun p hp => by simp at hp) h.un)
theorem Aw.tidy {c : LCode} (ls rs : List Nat) (h : Aw P m c Q (forget ls 0 env) (H.norm rs) n) : Aw P m c Q env H n := Aw.ent (Ent.tidy ls rs) h
theorem Aw.says {c : LCode} {env2 : List AV} {H2 : Heap} (he : env = env2) (hh : H = H2) (h : Aw P m c Q env2 H2 n) : Aw P m c Q env H n := by subst he; subst hh; exact h
theorem Aw.join {S : Type} {c : LCode} (E : S → List AV) (Hp : S → Heap) (N : Nat) (Φ : S → Prop) (J : ∀ s, Φ s → Aw P m b Q (E s) (Hp s) N)
 (h : ∀ Q' : Post, (∀ s env H n, Φ s → Ent m (E s) (Hp s) N env H n → Q' .normal env H n) → (∀ env H n, Q .ret env H n → Q' .ret env H n) → (∀ i env H n, Q (.exit i) env H n → Q' (.exit i) env H n) → Aw P m c Q' env H n) :
 Aw P m (.seq c b) Q env H n :=
 Aw.seq (h _ (fun s _ _ _ hs he => Aw.ent he (J s hs)) (fun _ _ _ h => h) (fun _ _ _ _ h => h))
def AgainN (I : Nat → List AV → Heap → Nat → Prop) (m k : Nat) (Q : Post) : Post
 | .normal => fun env H n => ∃ j env2 H2 n2, j < k ∧ Ent m env2 H2 n2 env H n ∧ I j env2 H2 n2
 | e => Q e
theorem Aw.loopN {c : LCode} (I : Nat → List AV → Heap → Nat → Prop) (h0 : ∃ k env2 H2 n2, Ent m env2 H2 n2 env H n ∧ I k env2 H2 n2)
 (round : ∀ k env2 H2 n2, I k env2 H2 n2 → Aw P m c (AgainN I m k Q) env2 H2 n2) : Aw P m (.loop c) Q env H n := by
 have hl : ∀ env H n, (∃ k, I k env H n) → ∃ k, I k env H n ∧ ∀ j, I j env H n → k ≤ j := fun env H n ⟨k, hk⟩ => least (fun k => I k env H n) k hk
 let μ : List AV → Heap → Nat → Nat := fun env H n => open Classical in if h : ∃ k, I k env H n then Classical.choose (hl env H n h) else 0
 have hμ : ∀ env H n, (∃ k, I k env H n) → I (μ env H n) env H n ∧ ∀ j, I j env H n → μ env H n ≤ j := fun env H n h => by
  have e : μ env H n = Classical.choose (hl env H n h) := by simp only [μ]; rw [dif_pos h]
  rw [e]
  exact Classical.choose_spec (hl env H n h)
 refine Aw.loop (fun env H n => ∃ k, I k env H n) μ ?_ ?_
 · obtain ⟨k, env2, H2, n2, h1, h2⟩ := h0
   exact ⟨env2, H2, n2, h1, k, h2⟩
 · intro env2 H2 n2 hI
   obtain ⟨h1, h2⟩ := hμ env2 H2 n2 hI
   refine Aw.mono (round _ env2 H2 n2 h1) fun o env H n hq => ?_
   cases o with
   | normal =>
    obtain ⟨j, env3, H3, n3, hj, he, hI3⟩ := hq
    refine ⟨env3, H3, n3, he, ⟨j, hI3⟩, ?_⟩
    have := (hμ env3 H3 n3 ⟨j, hI3⟩).2 j hI3
    omega
   | exit i => exact hq
   | ret => exact hq
def Head {S R : Type} (step : S → Option (LO S R)) (out : LO S R) (E : S → List AV) (Hp : S → Heap) (N : Nat) : Nat → List AV → Heap → Nat → Prop :=
 fun j env H n => ∃ s, iterN step j s = some out ∧ env = E s ∧ H = Hp s ∧ n = N
theorem Aw.iter {S R : Type} {c : LCode} {step : S → Option (LO S R)} {out : LO S R} (E : S → List AV) (Hp : S → Heap) (N : Nat) {s0 : S} (hi : Go.Proofs.Ytmjphjphgjmojaa.iter step s0 = some out) (h0 : Ent m (E s0) (Hp s0) N env H n)
 (round : ∀ (s : S) (o : LO S R) (Q' : Post), step s = some o →
  (∀ s2 env H n, o = .next s2 → Ent m (E s2) (Hp s2) N env H n → Q' .normal env H n) →
  (∀ r i env H n, o = .ret r → (out = .ret r → Q (.exit i) env H n) → Q' (.exit i) env H n) →
  (∀ r env H n, o = .ret r → (out = .ret r → Q .ret env H n) → Q' .ret env H n) → Aw P m c Q' (E s) (Hp s) N) : Aw P m (.loop c) Q env H n := by
 obtain ⟨k, hk⟩ := iter_some hi
 refine Aw.loopN (Head step out E Hp N) ⟨k, _, _, _, h0, s0, hk, rfl, rfl, rfl⟩ ?_
 rintro j _ _ _ ⟨s, hs, rfl, rfl, rfl⟩
 obtain ⟨o, ho, hm⟩ := iterN_step hs
 refine round s o _ ho ?_ ?_ ?_
 · rintro s2 env H n rfl he
   obtain ⟨i, hi, hi2⟩ := hm
   exact ⟨i, _, _, _, hi, he, s2, hi2, rfl, rfl, rfl⟩
 · rintro r i env H n rfl hq
   exact hq hm
 · rintro r env H n rfl hq
   exact hq hm
def rho (L : List (Option Nat)) (i : Nat) : Option Nat := L.getD i none
def nodupB : List (Option Nat) → Bool
 | [] => true
 | none :: l => nodupB l
 | some j :: l => !l.contains (some j) && nodupB l
theorem nodup_inj : ∀ {L : List (Option Nat)}, nodupB L = true → ∀ {r r' j}, rho L r = some j → rho L r' = some j → r = r'
 | [], _, r, r', j, h, _ => by simp [rho] at h
 | x :: L, hn, r, r', j, h, h' => by
  have hn2 : nodupB L = true := by cases x <;> simp_all [nodupB]
  cases r with
  | zero =>
   cases r' with
   | zero => rfl
   | succ r' =>
    simp only [rho, List.getD_cons_zero, List.getD_cons_succ] at h h'
    subst h
    simp only [nodupB, Bool.and_eq_true, Bool.not_eq_true', List.contains_eq_mem, decide_eq_false_iff_not] at hn
    exfalso
    apply hn.1
    rcases Nat.lt_or_ge r' L.length with hl | hl
    · rw [List.getD, List.getElem?_eq_getElem hl] at h'
      simp only [Option.getD_some] at h'
      rw [← h']; exact List.getElem_mem hl
    · simp [List.getD, Nat.not_lt.2 hl] at h'
  | succ r =>
   cases r' with
   | zero =>
    simp only [rho, List.getD_cons_zero, List.getD_cons_succ] at h h'
    subst h'
    simp only [nodupB, Bool.and_eq_true, Bool.not_eq_true', List.contains_eq_mem, decide_eq_false_iff_not] at hn
    exfalso
    apply hn.1
    rcases Nat.lt_or_ge r L.length with hl | hl
    · rw [List.getD, List.getElem?_eq_getElem hl] at h
      simp only [Option.getD_some] at h
      rw [← h]; exact List.getElem_mem hl
    · simp [List.getD, Nat.not_lt.2 hl] at h
   | succ r' =>
    simp only [rho, List.getD_cons_succ] at h h'
    exact congrArg _ (nodup_inj hn2 h h')
def HS (ρ : Nat → Option Nat) (n2 : Nat) (H : Heap) : Heap → Prop
 | [] => True
 | (r, some t2) :: H2 => (r < n2 ∧ ((ρ r = none ∧ t2.cs = []) ∨ ∃ j t, ρ r = some j ∧ H.get1 j = some t ∧ t.e = t2.e ∧ Rens ρ n2 t2.cs t.cs)) ∧ HS ρ n2 H H2
 | (_, none) :: H2 => HS ρ n2 H H2
theorem HS.root {ρ : Nat → Option Nat} {n2 : Nat} {H : Heap} : ∀ {H2 : Heap}, HS ρ n2 H H2 → ∀ r t2, H2.get1 r = some t2 → r < n2 ∧ ((ρ r = none ∧ t2.cs = []) ∨ ∃ j t, ρ r = some j ∧ H.get1 j = some t ∧ t.e = t2.e ∧ Rens ρ n2 t2.cs t.cs)
 | [], _, r, t2, h => by simp [Heap.get1] at h
 | (k, some t) :: H2, hs, r, t2, h => by
  simp only [Heap.get1] at h
  split at h
  · rename_i e; subst e; cases h; exact hs.1
  · exact HS.root hs.2 r t2 h
 | (k, none) :: H2, hs, r, t2, h => by
  simp only [Heap.get1] at h
  split at h
  · cases h
  · exact HS.root (show HS ρ n2 H H2 from hs) r t2 h
theorem hs_as {ρ : Nat → Option Nat} {n2 r j : Nat} {H H2 : Heap} {t t2 : Root} (hn : r < n2) (hj : ρ r = some j) (ht : H.get1 j = some t) (he : t.e = t2.e) (hr : Rens ρ n2 t2.cs t.cs) (h : HS ρ n2 H H2) : HS ρ n2 H ((r, some t2) :: H2) :=
 ⟨⟨hn, .inr ⟨j, t, hj, ht, he, hr⟩⟩, h⟩
theorem hs_no {ρ : Nat → Option Nat} {n2 r : Nat} {H H2 : Heap} {t2 : Root} (hn : r < n2) (hj : ρ r = none) (he : t2.cs = []) (h : HS ρ n2 H H2) : HS ρ n2 H ((r, some t2) :: H2) := ⟨⟨hn, .inl ⟨hj, he⟩⟩, h⟩
theorem hs_nil {ρ : Nat → Option Nat} {n2 : Nat} {H : Heap} : HS ρ n2 H [] := trivial
def prefB (m : Nat) (L : List (Option Nat)) : Bool := (List.range m).all fun i => rho L i == some i
theorem Ent.list {m n n2 : Nat} {xs2 xs : List AV} {H2 H : Heap} (L : List (Option Nat)) (hd : nodupB L = true) (hp : prefB m L = true) (h2 : m ≤ n2) (h3 : Rens (rho L) n2 xs2 xs) (h4 : HS (rho L) n2 H H2) : Ent m xs2 H2 n2 xs H n :=
 Ent.sub (rho L) (fun i hi => by
  simp only [prefB, List.all_eq_true, List.mem_range, beq_iff_eq] at hp
  exact hp i hi) h2 h3 ⟨h4.root, fun _ _ _ _ _ e1 e2 => nodup_inj hd e1 e2⟩
theorem Rens.of_get {ρ : Nat → Option Nat} {n : Nat} : ∀ {xs ys : List AV}, ys.length = xs.length → (∀ t, t < xs.length → Ren ρ n (xs.getD t .unk) (ys.getD t .unk)) → Rens ρ n xs ys
 | [], ys, h, _ => by simp only [Rens]; exact List.length_eq_zero_iff.1 (by simpa using h)
 | x :: xs, [], h, _ => by simp at h
 | x :: xs, y :: ys, h, k => by
  simp only [Rens]
  exact ⟨y, ys, rfl, k 0 (by simp), Rens.of_get (by simpa using h) fun t ht => by simpa using k (t + 1) (by simpa using ht)⟩
def RL (ρ : Nat → Option Nat) (n : Nat) (env : List AV) : List (Nat × AV) → Prop
 | [] => True
 | (i, v) :: l => Ren ρ n v (env.getD i .unk) ∧ RL ρ n env l
theorem RL.mem {ρ : Nat → Option Nat} {n : Nat} : ∀ {l : List (Nat × AV)}, RL ρ n env l → ∀ {i v}, (i, v) ∈ l → Ren ρ n v (env.getD i .unk)
 | [], _, _, _, h => by cases h
 | (j, u) :: l, hl, i, v, h => by
  rcases List.mem_cons.1 h with e | h
  · cases e; exact hl.1
  · exact hl.2.mem h
theorem spGo_length : ∀ {k i : Nat} {l : List (Nat × AV)}, (spGo i k l).length = k
 | 0, _, _ => by simp [spGo]
 | k + 1, i, [] => by simp [spGo, spGo_length]
 | k + 1, i, (j, v) :: l => by simp only [spGo]; split <;> simp [spGo_length]
theorem spGo_getD : ∀ {k i t : Nat} {l : List (Nat × AV)}, (spGo i k l).getD t .unk = .unk ∨ (i + t, (spGo i k l).getD t .unk) ∈ l
 | 0, _, _, _ => by simp [spGo]
 | k + 1, i, t, [] => by
  simp only [spGo]
  cases t with
  | zero => simp
  | succ t =>
   have := spGo_getD (k := k) (i := i + 1) (t := t) (l := [])
   simpa using this
 | k + 1, i, t, (j, v) :: l => by
  simp only [spGo]
  split
  · rename_i h
    cases t with
    | zero => right; simp only [List.getD_cons_zero, Nat.add_zero]; rw [Nat.eq_of_beq_eq_true h]; simp
    | succ t =>
     have := spGo_getD (k := k) (i := i + 1) (t := t) (l := l)
     simp only [List.getD_cons_succ]
     rw [show i + (t + 1) = i + 1 + t by omega]
     exact this.imp id fun h => List.mem_cons_of_mem _ h
  · cases t with
    | zero => simp
    | succ t =>
     have := spGo_getD (k := k) (i := i + 1) (t := t) (l := (j, v) :: l)
     simp only [List.getD_cons_succ]
     rw [show i + (t + 1) = i + 1 + t by omega]
     exact this
theorem rens_sp {ρ : Nat → Option Nat} {n k : Nat} {l : List (Nat × AV)} (hl : env.length = k) (h : RL ρ n env l) : Rens ρ n (sp k l) env := by
 refine Rens.of_get (by rw [hl]; exact spGo_length.symm) fun t _ => ?_
 rcases spGo_getD (k := k) (i := 0) (t := t) (l := l) with e | e
 · show Ren ρ n ((spGo 0 k l).getD t .unk) _
   rw [e]; simp [Ren]
 · rw [Nat.zero_add] at e
   exact h.mem e
section
variable {ρ : Nat → Option Nat}
theorem ren_i {k : IntKind} {z : Int} : Ren ρ n (.int k z) (.int k z) := by simp [Ren]
theorem ren_ie {k : IntKind} {z z2 : Int} (h : z2 = z) : Ren ρ n (.int k z) (.int k z2) := by simp [Ren, h]
theorem ren_b {t : Bool} : Ren ρ n (.bool t) (.bool t) := by simp [Ren]
theorem ren_be {t t2 : Bool} (h : t2 = t) : Ren ρ n (.bool t) (.bool t2) := by simp [Ren, h]
theorem ren_nil : Ren ρ n .nil .nil := by simp [Ren]
theorem ren_emp : Ren ρ n .emp .emp := by simp [Ren]
theorem ren_empn : Ren ρ n .emp .nil := by simp [Ren]
theorem ren_und : Ren ρ n .und .und := by simp [Ren]
theorem ren_unk {v : AV} : Ren ρ n .unk v := by simp [Ren]
theorem ren_p {r j o : Nat} {π : List Nat} (h : r < n) (hj : ρ r = some j) : Ren ρ n (.ptr r π o) (.ptr j π o) := by simp [Ren, h, hj]
theorem ren_s {r j o k sz : Nat} {π : List Nat} (h : r < n) (hj : ρ r = some j) : Ren ρ n (.sref r π o k sz) (.sref j π o k sz) := by simp [Ren, h, hj]
theorem ren_se {r j o k k2 sz : Nat} {π : List Nat} (h : r < n) (hj : ρ r = some j) (hk : k2 = k) : Ren ρ n (.sref r π o k sz) (.sref j π o k2 sz) := by subst hk; exact ren_s h hj
theorem ren_s0 {r o k sz : Nat} {π : List Nat} (h : r < n) (hj : ρ r = none) (hk : k = 0) : Ren ρ n (.sref r π o k sz) .nil := by simp [Ren, h, hj, hk]
theorem ren_s1 {r o k sz : Nat} {π : List Nat} (h : r < n) (hj : ρ r = none) (hk : k = 0) : Ren ρ n (.sref r π o k sz) .emp := by simp [Ren, h, hj, hk]
theorem ren_same {v : AV} (h : v.noRef = true) : Ren ρ n v v := Ren.noRef h
theorem ren_bor {k : Nat} {cs us : List AV} (h : Rens ρ n cs us) : Ren ρ n (.bor k cs) (.bor k us) := by simp only [Ren]; exact .inl ⟨us, rfl, h⟩
theorem ren_bor0 : Ren ρ n (.bor 0 []) .nil := by simp [Ren]
theorem ren_bor1 : Ren ρ n (.bor 0 []) .emp := by simp [Ren]
theorem ren_agg {vs us : List AV} (h : Rens ρ n vs us) : Ren ρ n (.agg vs) (.agg us) := by simp only [Ren]; exact ⟨us, rfl, h⟩
theorem ren_tup {vs us : List AV} (h : Rens ρ n vs us) : Ren ρ n (.tup vs) (.tup us) := by simp only [Ren]; exact ⟨us, rfl, h⟩
theorem rens_n : Rens ρ n [] [] := by simp [Rens]
theorem rens_c {v u : AV} {vs us : List AV} (h : Ren ρ n v u) (k : Rens ρ n vs us) : Rens ρ n (v :: vs) (u :: us) := by simp only [Rens]; exact ⟨u, us, rfl, h, k⟩
theorem rens_same {vs : List AV} (h : noRefs vs = true) : Rens ρ n vs vs := Rens.noRef h
end
theorem Fn.start {f : FuncId} {lf : LFun} {args : List AV} {r v : AV} {Hr : Heap} {k : Nat} (hl : lowFun P f = some lf) (ls : List Nat) {E : List AV} (hE : forget ls 0 (args ++ List.replicate (lf.ntmps - args.length) .und) = E) (hr : nameV 0 r = (v, Hr, k))
 (h : Aw P 0 lf.body (Gives 0 v Hr k lf.res) E [] 0) : Fn P f args r := by
 refine Fn.of_aw hl ?_
 rw [hr]
 refine Aw.tidy ls [] ?_
 rw [hE]
 exact h
theorem gives {r r' : AV} {Hr : Heap} {k : Nat} {ls : List LRes} (h : resOut env H ls = some r') (he : Ent m [r] Hr k [r'] H n) : Gives m r Hr k ls .ret env H n := ⟨r', h, he⟩
theorem rens_1 {ρ : Nat → Option Nat} {v u : AV} (h : Ren ρ n v u) : Rens ρ n [v] [u] := rens_c h rens_n
theorem gives_same {r : AV} {ls : List LRes} (h : resOut env H ls = some r) (hr : r.noRef = true) : Gives 0 r [] 0 ls .ret env H n :=
 ⟨r, h, Ent.list [] rfl rfl (Nat.le_refl _) (rens_1 (Ren.noRef hr)) hs_nil⟩
def fl {T : Type} (c : T → List AV) (xs : List T) : List AV := xs.flatMap c
@[reducible] def bo {T : Type} (c : T → List AV) (xs : List T) : AV := .bor xs.length (fl c xs)
@[reducible] def w64 (z : Int) : Int := IntKind.wrap .i64 z
def eI (k : IntKind) (z : Int) : List AV := [.int k z]
def eB (t : Bool) : List AV := [.bool t]
section
variable {T : Type} [Inhabited T] {c : T → List AV} {sz : Nat}
theorem fl_append {xs ys : List T} : fl c xs ++ fl c ys = fl c (xs ++ ys) := by simp [fl]
theorem fl_len (hc : ∀ x, (c x).length = sz) : ∀ {xs : List T}, (fl c xs).length = xs.length * sz
 | [] => by simp [fl]
 | x :: xs => by
  have := fl_len hc (xs := xs)
  simp only [fl] at this
  simp [fl, hc, this, Nat.add_mul, Nat.add_comm]
theorem fl_drop (hc : ∀ x, (c x).length = sz) : ∀ {xs : List T} {i : Nat}, (fl c xs).drop (i * sz) = fl c (xs.drop i)
 | xs, 0 => by simp
 | [], i + 1 => by simp [fl]
 | x :: xs, i + 1 => by
  have := fl_drop hc (xs := xs) (i := i)
  simp only [fl, List.flatMap_cons, List.drop_succ_cons] at this ⊢
  rw [← this, Nat.add_mul, Nat.one_mul, Nat.add_comm (i * sz), List.drop_append, hc]
  simp [List.drop_eq_nil_of_le, hc]
theorem fl_take (hc : ∀ x, (c x).length = sz) : ∀ {xs : List T} {i : Nat}, (fl c xs).take (i * sz) = fl c (xs.take i)
 | xs, 0 => by simp [fl]
 | [], i + 1 => by simp [fl]
 | x :: xs, i + 1 => by
  have := fl_take hc (xs := xs) (i := i)
  simp only [fl, List.flatMap_cons, List.take_succ_cons] at this ⊢
  rw [← this, Nat.add_mul, Nat.one_mul, Nat.add_comm (i * sz), List.take_append, hc]
  simp [List.take_of_length_le, hc]
theorem fl_one (hc : ∀ x, (c x).length = sz) {xs : List T} {i : Nat} (hi : i < xs.length) : ∃ tl, (fl c xs).drop (i * sz) = c (xs.getD i default) ++ tl := by
 refine ⟨fl c (xs.drop (i + 1)), ?_⟩
 rw [fl_drop hc, List.drop_eq_getElem_cons hi]
 have : xs.getD i default = xs[i] := by simp [List.getD, hi]
 rw [this]; rfl
theorem fl_getD (hc : ∀ x, (c x).length = sz) {xs : List T} {i off : Nat} (hi : i < xs.length) (hf : off < sz) : (fl c xs).getD (i * sz + off) .unk = (c (xs.getD i default)).getD off .unk := by
 obtain ⟨tl, h⟩ := fl_one hc hi
 have e : (fl c xs).getD (i * sz + off) .unk = ((fl c xs).drop (i * sz)).getD off .unk := by simp [List.getD, List.getElem?_drop]
 rw [e, h]
 have := List.getElem?_append_left (l₂ := tl) (show off < (c (xs.getD i default)).length by rw [hc]; exact hf)
 show ((c (xs.getD i default) ++ tl)[off]?).getD .unk = _
 rw [this]; rfl
theorem fl_sub (hc : ∀ x, (c x).length = sz) {xs : List T} {i off k : Nat} (hi : i < xs.length) (hf : off + k ≤ sz) : ((fl c xs).drop (i * sz + off)).take k = ((c (xs.getD i default)).drop off).take k := by
 obtain ⟨tl, h⟩ := fl_one hc hi
 rw [← List.drop_drop, h, List.drop_append_of_le_length (by rw [hc]; omega), List.take_append_of_le_length (by rw [List.length_drop, hc]; omega)]
theorem setCells_length : ∀ {vs cs : List AV} {o : Nat}, (setCells cs o vs).length = cs.length
 | [], _, _ => rfl
 | v :: vs, cs, o => by rw [setCells, setCells_length]; simp
theorem setCells_append : ∀ {vs cs ds : List AV} {o : Nat}, o + vs.length ≤ cs.length → setCells (cs ++ ds) o vs = setCells cs o vs ++ ds
 | [], _, _, _, _ => rfl
 | v :: vs, cs, ds, o, h => by
  simp only [List.length_cons] at h
  rw [setCells, setCells, List.set_append_left _ _ (by omega)]
  exact setCells_append (by simp; omega)
theorem setCells_shift : ∀ {vs cs ds : List AV} {o : Nat}, setCells (ds ++ cs) (ds.length + o) vs = ds ++ setCells cs o vs
 | [], _, _, _ => rfl
 | v :: vs, cs, ds, o => by
  rw [setCells, setCells, List.set_append_right _ _ (by omega), show ds.length + o - ds.length = o by omega, Nat.add_assoc]
  exact setCells_shift
theorem fl_set (hc : ∀ x, (c x).length = sz) {xs : List T} {i off : Nat} {vs : List AV} {y : T} (hi : i < xs.length) (hf : off + vs.length ≤ sz) (hy : setCells (c (xs.getD i default)) off vs = c y) : setCells (fl c xs) (i * sz + off) vs = fl c (xs.set i y) := by
 have h1 : xs = xs.take i ++ xs.getD i default :: xs.drop (i + 1) := by
  have : xs.getD i default = xs[i] := by simp [List.getD, hi]
  rw [this]
  rw [← List.drop_eq_getElem_cons hi, List.take_append_drop]
 have hl : (fl c (xs.take i)).length = i * sz := by rw [fl_len hc, List.length_take]; congr 1; omega
 have h2 : fl c xs = fl c (xs.take i) ++ (c (xs.getD i default) ++ fl c (xs.drop (i + 1))) := by
  conv => lhs; rw [h1]
  simp [fl]
 rw [h2, ← hl, setCells_shift, setCells_append (by rw [hc]; exact hf), hy]
 have h3 : xs.set i y = xs.take i ++ y :: xs.drop (i + 1) := by rw [List.set_eq_take_append_cons_drop, if_pos hi]
 rw [h3]; simp [fl]
theorem fl_replicate {d : T} {z : List AV} (hz : z = c d) : ∀ {k : Nat}, repeatCells z k = fl c (List.replicate k d)
 | 0 => rfl
 | k + 1 => by simp only [repeatCells, fl_replicate hz, List.replicate_succ]; simp [fl, hz]
theorem fl_all {p : List AV → Bool} (hp : ∀ as bs, p as = true → p bs = true → p (as ++ bs) = true) (h0 : p [] = true) (hc : ∀ x, p (c x) = true) : ∀ {xs : List T}, p (fl c xs) = true
 | [] => h0
 | x :: xs => by
  have := fl_all hp h0 hc (xs := xs)
  simp only [fl, List.flatMap_cons] at this ⊢
  exact hp _ _ (hc x) this
end
theorem len_eI {k : IntKind} : ∀ z, (eI k z).length = 1 := fun _ => rfl
theorem no_eI {k : IntKind} : ∀ z, noOwn (eI k z) = true := fun _ => rfl
theorem cl_eI {k : IntKind} : ∀ z, cleans (eI k z) = true := fun _ => rfl
theorem nr_eI {k : IntKind} : ∀ z, noRefs (eI k z) = true := fun _ => rfl
theorem nb_eI {k : IntKind} : ∀ z, noBors (eI k z) = true := fun _ => rfl
theorem len_eB : ∀ z, (eB z).length = 1 := fun _ => rfl
theorem no_eB : ∀ z, noOwn (eB z) = true := fun _ => rfl
theorem cl_eB : ∀ z, cleans (eB z) = true := fun _ => rfl
theorem nr_eB : ∀ z, noRefs (eB z) = true := fun _ => rfl
theorem nb_eB : ∀ z, noBors (eB z) = true := fun _ => rfl
theorem cleans_app : ∀ {as bs : List AV}, cleans as = true → cleans bs = true → cleans (as ++ bs) = true
 | [], _, _, h => h
 | a :: as, bs, h, k => by
  simp only [cleans, List.cons_append, Bool.and_eq_true] at h ⊢; exact ⟨h.1, cleans_app h.2 k⟩
theorem noRefs_app : ∀ {as bs : List AV}, noRefs as = true → noRefs bs = true → noRefs (as ++ bs) = true
 | [], _, _, h => h
 | a :: as, bs, h, k => by
  simp only [noRefs, List.cons_append, Bool.and_eq_true] at h ⊢; exact ⟨h.1, noRefs_app h.2 k⟩
theorem noBors_app : ∀ {as bs : List AV}, noBors as = true → noBors bs = true → noBors (as ++ bs) = true
 | [], _, _, h => h
 | a :: as, bs, h, k => by
  simp only [noBors, List.cons_append, Bool.and_eq_true] at h ⊢; exact ⟨h.1, noBors_app h.2 k⟩
theorem noOwn_app {as bs : List AV} (h : noOwn as = true) (k : noOwn bs = true) : noOwn (as ++ bs) = true := by
 simp only [noOwn, List.all_append, Bool.and_eq_true] at *; exact ⟨h, k⟩
section
variable {T : Type} {c : T → List AV}
theorem cleans_fl (h : ∀ x, cleans (c x) = true) {xs : List T} : cleans (fl c xs) = true := by
 induction xs with
 | nil => rfl
 | cons x xs ih => exact cleans_app (h x) ih
theorem noRefs_fl (h : ∀ x, noRefs (c x) = true) {xs : List T} : noRefs (fl c xs) = true := by
 induction xs with
 | nil => rfl
 | cons x xs ih => exact noRefs_app (h x) ih
theorem noBors_fl (h : ∀ x, noBors (c x) = true) {xs : List T} : noBors (fl c xs) = true := by
 induction xs with
 | nil => rfl
 | cons x xs ih => exact noBors_app (h x) ih
theorem noOwn_fl (h : ∀ x, noOwn (c x) = true) {xs : List T} : noOwn (fl c xs) = true := by
 induction xs with
 | nil => rfl
 | cons x xs ih => exact noOwn_app (h x) ih
end
end
end Go.Proofs.Ytmjphjphgjmojaa
