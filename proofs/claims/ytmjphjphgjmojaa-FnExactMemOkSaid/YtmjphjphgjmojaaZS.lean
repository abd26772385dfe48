/- The machine with trees: a root of one's own becomes a row that is only read; a root's last cells are forgotten. No program is named here. -/
import Derived.Test.YtmjphjphgjmojaaZR
namespace Go.Proofs.Ytmjphjphgjmojaa
set_option linter.all false
open Go.RowKit
mutual
inductive Fr (R : Nat) (cs : List AV) : AV → AV → Prop
 | same (x : AV) : Fr R cs x x
 | unk (x : AV) : Fr R cs x .unk
 | row (o m sz : Nat) (us : List AV) : o + m * sz ≤ cs.length → us = (cs.drop o).take (m * sz) → Fr R cs (.sref R [] o m sz) (.bor m us)
 | agg (vs us : List AV) : Frs R cs vs us → Fr R cs (.agg vs) (.agg us)
 | tup (vs us : List AV) : Frs R cs vs us → Fr R cs (.tup vs) (.tup us)
inductive Frs (R : Nat) (cs : List AV) : List AV → List AV → Prop
 | nil : Frs R cs [] []
 | cons (v u : AV) (vs us : List AV) : Fr R cs v u → Frs R cs vs us → Frs R cs (v :: vs) (u :: us)
end
def HF (R : Nat) (cs : List AV) (H : Heap) : Heap → Prop
 | [] => True
 | (r, some t2) :: H2 => (r ≠ R ∧ ∃ t, H.get1 r = some t ∧ t2.e = t.e ∧ Frs R cs t.cs t2.cs) ∧ HF R cs H H2
 | (_, none) :: H2 => HF R cs H H2
theorem HF.root {R : Nat} {cs : List AV} {H : Heap} : ∀ {H2 : Heap}, HF R cs H H2 → ∀ r t2, H2.get1 r = some t2 → r ≠ R ∧ ∃ t, H.get1 r = some t ∧ t2.e = t.e ∧ Frs R cs t.cs t2.cs
 | [], _, r, t2, h => by simp [Heap.get1] at h
 | (k, some t) :: H2, hs, r, t2, h => by
  simp only [Heap.get1] at h
  split at h
  · rename_i e; subst e; cases h; exact hs.1
  · exact HF.root hs.2 r t2 h
 | (k, none) :: H2, hs, r, t2, h => by
  simp only [Heap.get1] at h
  split at h
  · cases h
  · exact HF.root (show HF R cs H H2 from hs) r t2 h
section
variable {R : Nat} {cs : List AV} {Φ Φ' : Fz} {n : Nat} {β : Spots} {H H2 : Heap} {w : World}
theorem Frs.length : ∀ {xs ys : List AV}, Frs R cs xs ys → ys.length = xs.length
 | _, _, .nil => rfl
 | _, _, .cons _ _ _ _ _ h => by simp [Frs.length h]
theorem Frs.get : ∀ {xs ys : List AV}, Frs R cs xs ys → ∀ i, Fr R cs (xs.getD i .unk) (ys.getD i .unk)
 | _, _, .nil, i => by simpa using Fr.same .unk
 | _, _, .cons v u vs us h1 h2, 0 => by simpa using h1
 | _, _, .cons v u vs us h1 h2, i + 1 => by simpa using h2.get i
theorem Fr.node {x y : AV} (h : Fr R cs x y) : y.node = x.node ∨ y.node = none := by
 cases h
 case same => exact .inl rfl
 all_goals exact .inr rfl
theorem Fr.at {x y : AV} {r : Nat} {π : List Nat} {i : Nat} (h : Fr R cs x y) : Fr R cs (x.at r π i) (y.at r π i) := by
 cases h with
 | same => exact .same _
 | unk => exact .unk _
 | row o m sz us h1 h2 => exact .row o m sz us h1 h2
 | agg vs us h1 => exact .agg vs us h1
 | tup vs us h1 => exact .tup vs us h1
theorem Frs.refer {r : Nat} {π : List Nat} : ∀ {i : Nat} {xs ys : List AV}, Frs R cs xs ys → Frs R cs (refer r π i xs) (Go.Proofs.Ytmjphjphgjmojaa.refer r π i ys)
 | _, _, _, .nil => .nil
 | i, _, _, .cons v u vs us h1 h2 => by
  simp only [Go.Proofs.Ytmjphjphgjmojaa.refer]
  exact .cons _ _ _ _ h1.at h2.refer
mutual
theorem Fr.sound (hle : Φ.le Φ') (hrow : ∀ o m sz v, o + m * sz ≤ cs.length → RV Φ n β (.sref R [] o m sz) v → RV Φ' n β (.bor m ((cs.drop o).take (m * sz))) v) : ∀ {x y : AV} {v : Value}, Fr R cs x y → RV Φ n β x v → RV Φ' n β y v
 | _, _, _, .same x, h => h.more hle (Nat.le_refl _) fun _ _ => rfl
 | _, _, _, .unk x, _ => by simp [RV]
 | _, _, v, .row o m sz us h1 h2, h => by subst h2; exact hrow o m sz v h1 h
 | _, _, _, .agg vs us hs, h => by
  simp only [RV] at h ⊢
  obtain ⟨arr, h1, h2⟩ := h
  exact ⟨arr, h1, Frs.sound hle hrow hs h2⟩
 | _, _, _, .tup vs us hs, h => by
  simp only [RV] at h ⊢
  obtain ⟨arr, h1, h2⟩ := h
  exact ⟨arr, h1, Frs.soundt hle hrow hs h2⟩
theorem Frs.sound (hle : Φ.le Φ') (hrow : ∀ o m sz v, o + m * sz ≤ cs.length → RV Φ n β (.sref R [] o m sz) v → RV Φ' n β (.bor m ((cs.drop o).take (m * sz))) v) : ∀ {xs ys : List AV} {vs : List Value}, Frs R cs xs ys → RVs Φ n β xs vs → RVs Φ' n β ys vs
 | _, _, _, .nil, h => by simpa only [RVs] using h
 | _, _, _, .cons v u vs us h1 h2, h => by
  simp only [RVs] at h ⊢
  obtain ⟨v', vs', e, o, g1, g2⟩ := h
  exact ⟨v', vs', e, o, Fr.sound hle hrow h1 g1, Frs.sound hle hrow h2 g2⟩
theorem Frs.soundt (hle : Φ.le Φ') (hrow : ∀ o m sz v, o + m * sz ≤ cs.length → RV Φ n β (.sref R [] o m sz) v → RV Φ' n β (.bor m ((cs.drop o).take (m * sz))) v) : ∀ {xs ys : List AV} {vs : List Value}, Frs R cs xs ys → RVt Φ n β xs vs → RVt Φ' n β ys vs
 | _, _, _, .nil, h => by simpa only [RVt] using h
 | _, _, _, .cons v u vs us h1 h2, h => by
  simp only [RVt] at h ⊢
  obtain ⟨v', vs', e, g1, g2⟩ := h
  exact ⟨v', vs', e, Fr.sound hle hrow h1 g1, Frs.soundt hle hrow h2 g2⟩
end
theorem HF.node (h : ∀ r t2, H2.get1 r = some t2 → r ≠ R ∧ ∃ t, H.get1 r = some t ∧ t2.e = t.e ∧ Frs R cs t.cs t2.cs) {r : Nat} : ∀ {π : List Nat} {t2 : Root}, H2.get r π = some t2 → r ≠ R ∧ ∃ t, H.get r π = some t ∧ t2.e = t.e ∧ Frs R cs t.cs t2.cs
 | [], t2, hr => h r t2 hr
 | i :: π, t2, hr => by
  simp only [Heap.get] at hr ⊢
  split at hr
  · rename_i tp htp
    obtain ⟨h1, t, h2, h3, h4⟩ := HF.node h htp
    refine ⟨h1, t2, ?_, rfl, ?_⟩
    · rw [h2]
      rcases (h4.get i).node with e | e
      · simp only []; rw [← e]; exact hr
      · rw [e] at hr; cases hr
    · have same : ∀ l : List AV, Frs R cs l l := fun l => by
       induction l with
       | nil => exact .nil
       | cons x l ih => exact .cons _ _ _ _ (.same x) ih
      exact same _
  · cases hr
theorem Ent.freezeR {m : Nat} {xs xs2 : List AV} {e : TypeId} (hR : H.get1 R = some ⟨e, cs⟩) (hno : noOwn cs = true) (hx : Frs R cs xs xs2) (hHr : ∀ r t2, H2.get1 r = some t2 → r ≠ R ∧ ∃ t, H.get1 r = some t ∧ t2.e = t.e ∧ Frs R cs t.cs t2.cs) : Ent m xs2 H2 n xs H n := by
 intro Φ β vs w hm hK hh hv
 have hR' : H.get R [] = some ⟨e, cs⟩ := hR
 cases hex : (β R []).ex with
 | false =>
  have hcs : cs = [] := by
   rcases (hh.root R [] _ hR').2 with ⟨_, h⟩ | ⟨h, _⟩
   · exact h
   · rw [hex] at h; cases h
  have hrow : ∀ o m sz v, o + m * sz ≤ cs.length → RV Φ n β (.sref R [] o m sz) v → RV Φ n β (.bor m ((cs.drop o).take (m * sz))) v := by
   intro o k sz v _ h
   simp only [RV] at h ⊢
   obtain ⟨_, s, cap, h1, h2, h3, h4⟩ := h
   rcases h4 with ⟨h5, h6, _⟩ | ⟨h5, _⟩
   · exact ⟨s, cap, [], h1, h2, h3, .inl rfl, by subst hcs; simp [RVs]⟩
   · rw [hex] at h5; cases h5
  refine ⟨Φ, β, hm, fun _ _ => rfl, Fz.le_refl Φ, hK, ?_, Frs.soundt (Fz.le_refl Φ) hrow hx hv⟩
  refine ⟨fun r π t2 hr => ?_, fun r π r' π' h1 h2 => ?_⟩
  · obtain ⟨h1, t, h2, h3, h4⟩ := HF.node hHr hr
    obtain ⟨h5, h6⟩ := hh.root r π t h2
    refine ⟨h5, h6.imp (fun ⟨a, b⟩ => ⟨a, by have := h4.length; rw [b] at this; exact List.length_eq_zero_iff.1 this⟩) fun ⟨a, b, cur, c1, c2, c3, c4⟩ => ⟨a, b, cur, by rw [h3]; exact c1, c2, by rw [h4.length]; exact c3, by rw [h4.length]; exact Frs.sound (Fz.le_refl Φ) hrow h4.refer c4⟩⟩
  · obtain ⟨t, ht⟩ := Option.isSome_iff_exists.1 h1
    obtain ⟨t', ht'⟩ := Option.isSome_iff_exists.1 h2
    obtain ⟨_, u, hu, _⟩ := HF.node hHr ht
    obtain ⟨_, u', hu', _⟩ := HF.node hHr ht'
    exact hh.apart r π r' π' (by simp [hu]) (by simp [hu'])
 | true =>
  obtain ⟨g1, cur, g2, g3, g4, g5⟩ := hh.own hR' hex
  rw [refer_no hno] at g5
  let Φ' : Fz := fun b => if b = (β R []).b then some (true, .cells cur e (0, 0)) else Φ b
  have z1 : Φ' (β R []).b = some (true, .cells cur e (0, 0)) := by simp [Φ']
  have z2 : ∀ b, b ≠ (β R []).b → Φ' b = Φ b := fun b h => by simp [Φ', h]
  have hle : Φ.le Φ' := fun b x h => by
   rw [z2 b (fun hb => by rw [hb, g1] at h; cases h)]; exact h
  have hK' : Keep Φ' w := fun b x h => by
   by_cases hb : b = (β R []).b
   · subst hb; rw [z1] at h; cases h; exact g2
   · rw [z2 b hb] at h; exact hK b x h
  have hrow : ∀ o m sz v, o + m * sz ≤ cs.length → RV Φ n β (.sref R [] o m sz) v → RV Φ' n β (.bor m ((cs.drop o).take (m * sz))) v := by
   intro o k sz v hl h
   simp only [RV] at h ⊢
   obtain ⟨_, s, cap, h1, h2, h3, h4⟩ := h
   rcases h4 with ⟨rfl, h6, _⟩ | ⟨_, rfl, _⟩
   · exact ⟨s, cap, [], h1, h2, h3, .inl rfl, by simp [RVs]⟩
   · refine ⟨_, cap, (((cur.toList.take cs.length).drop o).take (k * sz)), h1, h2, h3, .inr ⟨_, _, cur, e, (0, 0), rfl, z1, fun i hi => ?_⟩, ((g5.drop o).take (k * sz)).more hle (Nat.le_refl _) fun _ _ => rfl⟩
     simp only [List.length_take, List.length_drop, Array.length_toList] at hi
     have e1 : (((cur.toList.take cs.length).drop o).take (k * sz)).getD i undef = cur[o + i]'(by omega) := by
      simp [List.getD, List.getElem?_take, List.getElem?_drop, show i < k * sz by omega, show o + i < cs.length by omega, show o + i < cur.size by omega]
     rw [e1]
     simp [show o + i < cur.size by omega]
  refine ⟨Φ', β, hm, fun _ _ => rfl, hle, hK', ?_, Frs.soundt hle hrow hx hv⟩
  refine ⟨fun r π t2 hr => ?_, fun r π r' π' h1 h2 => ?_⟩
  · obtain ⟨h1, t, h2, h3, h4⟩ := HF.node hHr hr
    obtain ⟨h5, h6⟩ := hh.root r π t h2
    refine ⟨h5, h6.imp (fun ⟨a, b⟩ => ⟨a, by have := h4.length; rw [b] at this; exact List.length_eq_zero_iff.1 this⟩) fun ⟨a, b, cur', c1, c2, c3, c4⟩ => ⟨a, ?_, cur', by rw [h3]; exact c1, c2, by rw [h4.length]; exact c3, by rw [h4.length]; exact Frs.sound hle hrow h4.refer c4⟩⟩
    rw [z2 _ fun hb => h1 (hh.apart r π R [] (by simp [h2]) (by simp [hR']) a hex hb).1]
    exact b
  · obtain ⟨t, ht⟩ := Option.isSome_iff_exists.1 h1
    obtain ⟨t', ht'⟩ := Option.isSome_iff_exists.1 h2
    obtain ⟨_, u, hu, _⟩ := HF.node hHr ht
    obtain ⟨_, u', hu', _⟩ := HF.node hHr ht'
    exact hh.apart r π r' π' (by simp [hu]) (by simp [hu'])
theorem Ent.freeze {m : Nat} {xs xs2 : List AV} {e : TypeId} (hR : H.get1 R = some ⟨e, cs⟩) (hno : noOwn cs = true) (hx : Frs R cs xs xs2) (hH : HF R cs H H2) : Ent m xs2 H2 n xs H n := Ent.freezeR hR hno hx hH.root
theorem Frs.refl : ∀ l : List AV, Frs R cs l l
 | [] => .nil
 | x :: l => .cons _ _ _ _ (.same x) (Frs.refl l)
theorem Ent.freezeK {m : Nat} {xs xs2 : List AV} {e : TypeId} (hR : H.get1 R = some ⟨e, cs⟩) (hno : noOwn cs = true) (hx : Frs R cs xs xs2) : Ent m xs2 ((R, none) :: H) n xs H n :=
 Ent.freezeR hR hno hx fun r t2 h => by
  simp only [Heap.get1] at h
  split at h
  · cases h
  · rename_i e; exact ⟨fun x => e x.symm, t2, h, rfl, Frs.refl _⟩
theorem Ent.cut {m : Nat} {xs : List AV} (hg : ∀ r t2, H2.get1 r = some t2 → ∃ t k, H.get1 r = some t ∧ t2.e = t.e ∧ t2.cs = t.cs.take k) : Ent m xs H2 n xs H n := by
 have node : ∀ {r : Nat} {π : List Nat} {t2 : Root}, H2.get r π = some t2 → ∃ t k, H.get r π = some t ∧ t2.e = t.e ∧ t2.cs = t.cs.take k := by
  intro r π
  induction π with
  | nil => exact fun h => hg r _ h
  | cons i π ih =>
   intro t2 hr
   simp only [Heap.get] at hr ⊢
   split at hr
   · rename_i tp htp
     obtain ⟨t, k, h2, h3, h4⟩ := ih htp
     refine ⟨t2, t2.cs.length, ?_, rfl, by simp⟩
     rw [h2]
     simp only []
     rw [← hr, h4]
     by_cases hi : i < k
     · simp [List.getD, List.getElem?_take, hi]
     · have : (t.cs.take k).getD i .unk = .unk := by simp [List.getD, List.getElem?_take, hi]
       rw [h4, this] at hr; cases hr
   · cases hr
 intro Φ β vs w hm hK hh hv
 refine ⟨Φ, β, hm, fun _ _ => rfl, Fz.le_refl Φ, hK, ⟨fun r π t2 hr => ?_, fun r π r' π' h1 h2 => ?_⟩, hv⟩
 · obtain ⟨t, k, h2, h3, h4⟩ := node hr
   obtain ⟨h5, h6⟩ := hh.root r π t h2
   refine ⟨h5, h6.imp (fun ⟨a, b⟩ => ⟨a, by rw [h4, b]; simp⟩) fun ⟨a, b, cur, c1, c2, c3, c4⟩ => ⟨a, b, cur, by rw [h3]; exact c1, c2, by rw [h4, List.length_take]; omega, ?_⟩⟩
   rw [h4, ← refer_take]
   have := c4.take k
   rw [List.take_take] at this
   rw [List.length_take, Nat.min_comm k]
   rwa [Nat.min_comm] at this
 · obtain ⟨t, ht⟩ := Option.isSome_iff_exists.1 h1
   obtain ⟨t', ht'⟩ := Option.isSome_iff_exists.1 h2
   obtain ⟨u, _, hu, _⟩ := node ht
   obtain ⟨u', _, hu', _⟩ := node ht'
   exact hh.apart r π r' π' (by simp [hu]) (by simp [hu'])
end
section
variable {P : Program} {Q : Post} {env : List AV} {H H2 : Heap} {n m R : Nat} {cs : List AV} {c : LCode}
def FL (R : Nat) (cs : List AV) (env : List AV) : List (Nat × AV) → Prop
 | [] => True
 | (i, v) :: l => Fr R cs (env.getD i .unk) v ∧ FL R cs env l
theorem FL.mem : ∀ {l : List (Nat × AV)}, FL R cs env l → ∀ {i v}, (i, v) ∈ l → Fr R cs (env.getD i .unk) v
 | [], _, _, _, h => by cases h
 | (j, u) :: l, hl, i, v, h => by
  rcases List.mem_cons.1 h with e | h
  · cases e; exact hl.1
  · exact hl.2.mem h
theorem Frs.of_get : ∀ {xs ys : List AV}, ys.length = xs.length → (∀ t, t < xs.length → Fr R cs (xs.getD t .unk) (ys.getD t .unk)) → Frs R cs xs ys
 | [], ys, h, _ => by
  obtain rfl : ys = [] := List.length_eq_zero_iff.1 (by simpa using h)
  exact .nil
 | x :: xs, [], h, _ => by simp at h
 | x :: xs, y :: ys, h, k => .cons _ _ _ _ (k 0 (by simp)) (Frs.of_get (by simpa using h) fun t ht => by simpa using k (t + 1) (by simpa using ht))
theorem frs_sp {k : Nat} {l : List (Nat × AV)} (hl : env.length = k) (h : FL R cs env l) : Frs R cs env (sp k l) := by
 refine Frs.of_get (by rw [hl]; exact spGo_length) fun t _ => ?_
 rcases spGo_getD (k := k) (i := 0) (t := t) (l := l) with e | e
 · show Fr R cs _ ((spGo 0 k l).getD t .unk)
   rw [e]; exact .unk _
 · rw [Nat.zero_add] at e
   exact h.mem e
theorem fl_n : FL R cs env [] := trivial
theorem fl_c {i : Nat} {u v : AV} {l : List (Nat × AV)} (he : env.getD i .unk = u) (h : Fr R cs u v) (k : FL R cs env l) : FL R cs env ((i, v) :: l) := ⟨by rw [he]; exact h, k⟩
theorem hf_n : HF R cs H [] := trivial
theorem hf_c {r : Nat} {t t2 : Root} (hn : (r != R) = true) (ht : H.get1 r = some t) (he : t2.e = t.e) (h : Frs R cs t.cs t2.cs) (k : HF R cs H H2) : HF R cs H ((r, some t2) :: H2) := ⟨⟨by simpa using hn, t, ht, he, h⟩, k⟩
theorem frs_n : Frs R cs [] [] := .nil
theorem frs_c {v u : AV} {vs us : List AV} (h : Fr R cs v u) (k : Frs R cs vs us) : Frs R cs (v :: vs) (u :: us) := .cons _ _ _ _ h k
theorem frs_same : ∀ {vs : List AV}, Frs R cs vs vs
 | [] => .nil
 | x :: _ => .cons _ _ _ _ (.same x) frs_same
theorem Aw.freeze (R : Nat) {e : TypeId} {env2 : List AV} (hR : H.get1 R = some ⟨e, cs⟩) (hno : noOwn cs = true) (hx : Frs R cs env env2) (hH : HF R cs H H2) (h : Aw P m c Q env2 H2 n) : Aw P m c Q env H n := Aw.ent (Ent.freeze hR hno hx hH) h
def HC (H : Heap) : Heap → Prop
 | [] => True
 | (r, some t2) :: H2 => (∃ t k, H.get1 r = some t ∧ t2.e = t.e ∧ t2.cs = t.cs.take k) ∧ HC H H2
 | (_, none) :: H2 => HC H H2
theorem HC.root : ∀ {H2 : Heap}, HC H H2 → ∀ r t2, H2.get1 r = some t2 → ∃ t k, H.get1 r = some t ∧ t2.e = t.e ∧ t2.cs = t.cs.take k
 | [], _, r, t2, h => by simp [Heap.get1] at h
 | (k, some t) :: H2, hs, r, t2, h => by
  simp only [Heap.get1] at h
  split at h
  · rename_i e; subst e; cases h; exact hs.1
  · exact HC.root hs.2 r t2 h
 | (k, none) :: H2, hs, r, t2, h => by
  simp only [Heap.get1] at h
  split at h
  · cases h
  · exact HC.root (show HC H H2 from hs) r t2 h
theorem hc_n : HC H [] := trivial
theorem hc_c {r : Nat} {t : Root} (ht : H.get1 r = some t) (k : HC H H2) : HC H ((r, some t) :: H2) := ⟨⟨t, t.cs.length, ht, rfl, by simp⟩, k⟩
theorem hc_t {T : Type} [Inhabited T] {c : T → List AV} {sz i : Nat} {xs : List T} {r : Nat} {e : TypeId} (hc : ∀ x, (c x).length = sz) (ht : H.get1 r = some ⟨e, fl c xs⟩) (k : HC H H2) : HC H ((r, some ⟨e, fl c (xs.take i)⟩) :: H2) :=
 ⟨⟨_, i * sz, ht, rfl, (fl_take hc).symm⟩, k⟩
theorem Aw.cut (h2 : HC H H2) (h : Aw P m c Q env H2 n) : Aw P m c Q env H n := Aw.ent (Ent.cut h2.root) h
theorem fr_row {T : Type} [Inhabited T] {c : T → List AV} {sz o k i : Nat} {xs ys : List T} (hc : ∀ x, (c x).length = sz) (ho : o = i * sz) (hi : i + k ≤ xs.length) (hy : ys = (xs.drop i).take k) (hk : k = ys.length) : Fr R (fl c xs) (.sref R [] o k sz) (.bor ys.length (fl c ys)) := by
 rw [← hk]
 refine .row o k sz _ (by rw [fl_len hc, ho, ← Nat.add_mul]; exact Nat.mul_le_mul_right sz hi) ?_
 rw [ho, fl_drop hc, fl_take hc, hy]
theorem fr_all {T : Type} [Inhabited T] {c : T → List AV} {sz k : Nat} {xs : List T} (hc : ∀ x, (c x).length = sz) (hk : k = xs.length) : Fr R (fl c xs) (.sref R [] 0 k sz) (.bor xs.length (fl c xs)) :=
 fr_row (i := 0) hc (by simp) (by omega) (by simp [hk]) hk
end
theorem Inl.ent {P : Program} {f : FuncId} {args args2 : List AV} {H H2 H' : Heap} {n n2 n' : Nat} {r : AV} (he : Ent n args2 H2 n2 args H n) (h : Inl P f args2 H2 n2 r H' n') : Inl P f args H n r H' n' := by
 intro Φ w β vs hK hH hv
 obtain ⟨Φ2, β2, h1, h2, h3, h4, h5, h6⟩ := he Φ β vs w (Nat.le_refl _) hK hH hv
 exact (h Φ2 w β2 vs h4 h5 h6).mono fun e w' ⟨v, Φ', β', g0, g1, g2, g3, g4, g5, g6, g7⟩ => ⟨v, Φ', β', g0, Nat.le_trans h1 g1, fun i hi => (g2 i (Nat.lt_of_lt_of_le hi h1)).trans (h2 i hi), h3.trans g3, g4, g5, g6, g7⟩
theorem op_callz {P : Program} {env : List AV} {H H2 : Heap} {n n' : Nat} {K : AV → Heap → Nat → Prop} {f : FuncId} {as : List Opd} {args args2 args' : List AV} {r v : AV} {Hr : Heap} (hs : as.map (·.val env) = args) (he : Ent n args2 H2 n args H n) (hp : Fn P f args' r) (hc : Cloz [] args2 args') (h1 : r.noRef = true)
 (hn : nameV n r = (v, Hr, n')) (hk : Hld (K v (Hr ++ H2) n')) : Hld (yop P env H n K (.call f as)) := by
 refine op_calli (r := v) (H' := Hr ++ H2) (n' := n') (hs ▸ Inl.ent he ?_) hk
 have := Inl.of_fn0 (H := H2) (n := n) hc hp h1
 rw [hn] at this
 exact this
end Go.Proofs.Ytmjphjphgjmojaa
