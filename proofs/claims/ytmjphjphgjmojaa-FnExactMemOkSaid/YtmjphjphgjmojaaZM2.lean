/- Of a walk in the text's order: what may come first may be taken first. No program is named here. -/
import Derived.Test.YtmjphjphgjmojaaZM
namespace Go.Proofs.Ytmjphjphgjmojaa
set_option linter.all false
open Go.RowKit
def isFresh : LOp → Bool
 | .fresh _ _ => true
 | _ => false
def moves (env : List AV) (o : LOper) : Bool := (match gate o.g env with | some true => true | _ => false) && o.op.chain
def sn (env : List AV) (o : LOper) : Option (Nat × List Nat) := match gate o.g env with
 | some true => seen env o.op
 | _ => none
def fresh1 (env : List AV) (o : LOper) : Bool := (match gate o.g env with | some true => true | _ => false) && isFresh o.op
theorem free_spec {i j : LOper} (h : i.free j = true) : ∀ d, i.dst = some d → d ∉ j.reads ∧ j.dst ≠ some d := by
 intro d hd
 simp only [LOper.free, hd, Bool.and_eq_true, Bool.not_eq_true', bne_iff_ne, ne_eq] at h
 exact ⟨by simpa using h.1, h.2⟩
section
variable {P : Program} {K : DK} {env env' : List AV} {H H' : Heap} {n n' : Nat} {fs fs' : Fresh}
theorem kept_less {H : Heap} {q : Option (Nat × List Nat)} {H0 : Heap} {ls : List (Nat × List Nat × Option Root)} (h : kept H (noted H0 q ls)) : kept H ls ∧ Eqq H H0 (q) := by
 cases q with
 | none => exact ⟨h, trivial⟩
 | some q => obtain ⟨r, π⟩ := q; exact ⟨h.2, h.1⟩
def LsSub (ls' ls : List (Nat × List Nat × Option Root)) : Prop := ∀ H, kept H ls → kept H ls'
theorem LsSub.noted {q : Option (Nat × List Nat)} {ls' ls : List (Nat × List Nat × Option Root)} (h : LsSub ls' ls) : LsSub (noted H q ls') (noted H q ls) := by
 intro H' hk
 cases q with
 | none => exact h H' hk
 | some q => obtain ⟨r, π⟩ := q; exact ⟨hk.1, h H' hk.2⟩
theorem xds_mono : ∀ {os : List LOper} {hs hs' : List Heap} {ls ls' : List (Nat × List Nat × Option Root)} {env : List AV} {H : Heap} {n : Nat} {fs : Fresh}, (∀ h ∈ hs', h ∈ hs) → LsSub ls' ls → xds P K os hs ls env H n fs → xds P K os hs' ls' env H n fs
 | [], _, _, _, _, _, _, _, _, _, _, h => h
 | o :: os, hs, hs', ls, ls', env, H, n, fs, h1, h2, h => by
  have hsame : ∀ q, same H q hs → same H q hs' := fun q hq => same_of fun h0 hh => same_mem hq (h1 h0 hh)
  simp only [xds] at h ⊢
  split at h
  · split at h
    · split at h
      · exact xds_mono h1 h2 h
      · exact h.elim
    · split at h
      · exact xds_mono h1 h2 h
      · exact h.elim
    · split at h
      · exact ⟨hsame _ h.1, xop_mono (fun x a b hx => xds_mono h1 h2.noted hx) h.2⟩
      · exact xop_mono (fun x a b hx => ⟨h2 _ hx.1, xds_mono (fun h0 hh => by
         rcases List.mem_cons.1 hh with rfl | hh
         · simp
         · exact List.mem_cons_of_mem _ (h1 _ hh)) h2 hx.2⟩) h
  · exact xds_mono h1 h2 h
  · exact h.elim
theorem quiet_stays {op : LOp} (hq : op.quiet = true) {x : AV} (h : xop P env H n (fun v a b => x = v ∧ H' = a ∧ n' = b) op) : H' = H ∧ n' = n := by
 cases op <;> simp only [LOp.quiet, Bool.false_eq_true] at hq <;> simp only [xop] at h
 case bin op x y =>
  split at h
  · have := h.2
    cases op <;> simp only [xbin] at this <;> first | exact ⟨this.2.1, this.2.2⟩ | exact ⟨this.2.2.1, this.2.2.2⟩ | exact this.elim
  · exact h.elim
 case un op x =>
  simp only [xun] at h
  split at h
  · exact h.2
  · exact h.2
  · exact h.elim
 all_goals
  repeat' (split at h)
  all_goals first
   | exact h.elim
   | exact h.2
   | exact h.2.2
   | exact h.2.2.2
theorem op_chain {op : LOp} (hq : op.quiet = false) (h1 : ∀ (e : TypeId) (sz m : Nat) (z : List AV) (ps : List (Nat × Nat × Opd)), op = LOp.bsl e sz m z ps → False) (h2 : ∀ (e : TypeId) (z : List AV), op = LOp.fresh e z → False) : op.chain = true := by
 cases op
 case bsl => exact (h1 _ _ _ _ _ rfl).elim
 case fresh => exact (h2 _ _ rfl).elim
 all_goals simp_all [LOp.chain, LOp.quiet]
theorem op_noChain {op : LOp} (hq : op.chain = false) (h1 : ∀ (e : TypeId) (sz m : Nat) (z : List AV) (ps : List (Nat × Nat × Opd)), op = LOp.bsl e sz m z ps → False) (h2 : ∀ (e : TypeId) (z : List AV), op = LOp.fresh e z → False) : op.quiet = true := by
 cases op
 case bsl => exact (h1 _ _ _ _ _ rfl).elim
 case fresh => exact (h2 _ _ rfl).elim
 all_goals simp_all [LOp.chain, LOp.quiet]
theorem op_quietC {op : LOp} (hq : op.quiet = true) : op.chain = false := by cases op <;> simp_all [LOp.chain, LOp.quiet]
theorem xds_head {o : LOper} {os : List LOper} {hs : List Heap} {ls : List (Nat × List Nat × Option Root)} (h : xds P K (o :: os) hs ls env H n fs) :
 ∃ x H' n' fs', Stp P env H n fs o x H' n' fs' ∧ (moves env o = true → kept H' ls ∧ xds P K os (H' :: hs) ls (put env o.dst x) H' n' fs') ∧
  (moves env o = false → H' = H ∧ n' = n ∧ same H (sn env o) hs ∧ xds P K os hs (noted H (sn env o) ls) (put env o.dst x) H n fs') := by
 have st : ∀ hs : List Heap, same H none hs := fun hs => same_of fun _ _ => trivial
 simp only [xds] at h
 split at h
 · rename_i hg
   split at h
   · rename_i be bsz bm bz bps hop
     split at h
     · rename_i cs hcs
       refine ⟨frozenOf bm cs, H, n, fs, ?_, fun hm => ?_, fun _ => ⟨rfl, rfl, ?_, ?_⟩⟩
       · simp only [Stp, hg, hop, hcs]; exact ⟨trivial, trivial, trivial, trivial⟩
       · simp [moves, hg, hop, LOp.chain] at hm
       · simp only [sn, hg, hop, seen]; exact st hs
       · simp only [sn, hg, hop, seen, noted]; exact h
     · exact h.elim
   · rename_i fe fz hop
     split at h
     · rename_i d hd
       refine ⟨.unk, H, n, some (d, fe, fz), ?_, fun hm => ?_, fun _ => ⟨rfl, rfl, ?_, ?_⟩⟩
       · simp only [Stp, hg, hop, hd]; exact ⟨trivial, trivial, trivial, trivial⟩
       · simp [moves, hg, hop, LOp.chain] at hm
       · simp only [sn, hg, hop, seen]; exact st hs
       · simp only [sn, hg, hop, seen, noted, hd]; exact h
     · exact h.elim
   · rename_i h1 h2
     have hS : ∀ x a b, xop P env H n (fun v c d => x = v ∧ a = c ∧ b = d) o.op → Stp P env H n fs o x a b fs := fun x a b hx => by
      simp only [Stp, hg]
      exact ⟨hx, trivial⟩
     split at h
     · rename_i hq
       obtain ⟨hs1, hx⟩ := h
       obtain ⟨x, H', n', h3, h4⟩ := xop_wit hx
       obtain ⟨rfl, rfl⟩ := quiet_stays hq h3
       refine ⟨x, H', n', fs, hS _ _ _ h3, fun hm => ?_, fun _ => ⟨rfl, rfl, ?_, ?_⟩⟩
       · have : o.op.chain = false := op_quietC hq
         simp [moves, this] at hm
       · simp only [sn, hg]; exact hs1
       · simp only [sn, hg]; exact h4
     · rename_i hq
       obtain ⟨x, H', n', h3, h4, h5⟩ := xop_wit h
       refine ⟨x, H', n', fs, hS _ _ _ h3, fun _ => ⟨h4, h5⟩, fun hm => ?_⟩
       have : o.op.chain = true := op_chain (by simpa using hq) h1 h2
       simp [moves, hg, this] at hm
 · rename_i hg
   refine ⟨.und, H, n, fs, ?_, fun hm => ?_, fun _ => ⟨rfl, rfl, ?_, ?_⟩⟩
   · simp only [Stp, hg]; exact ⟨trivial, trivial, trivial, trivial⟩
   · simp [moves, hg] at hm
   · simp only [sn, hg]; exact st hs
   · simp only [sn, hg, noted]; exact h
 · exact h.elim
theorem xds_cons {o : LOper} {os : List LOper} {hs : List Heap} {ls : List (Nat × List Nat × Option Root)} {x : AV} (hS : Stp P env H n fs o x H' n' fs') (h1 : moves env o = true → kept H' ls ∧ xds P K os (H' :: hs) ls (put env o.dst x) H' n' fs')
 (h2 : moves env o = false → same H (sn env o) hs ∧ xds P K os hs (noted H (sn env o) ls) (put env o.dst x) H n fs') : xds P K (o :: os) hs ls env H n fs := by
 simp only [xds]
 simp only [Stp] at hS
 split at hS
 · rename_i hg
   split at hS
   · rename_i hop
     split at hS
     · rename_i cs hcs
       obtain ⟨rfl, rfl, rfl, rfl⟩ := hS
       have := (h2 (by simp [moves, hop, LOp.chain])).2
       simpa only [sn, hg, hop, seen, noted, hcs] using this
     · exact hS.elim
   · rename_i hop
     split at hS
     · rename_i d hd
       obtain ⟨rfl, rfl, rfl, rfl⟩ := hS
       have := (h2 (by simp [moves, hop, LOp.chain])).2
       simpa only [sn, hg, hop, seen, noted, hd] using this
     · exact hS.elim
   · rename_i a1 a2
     obtain ⟨hx, rfl⟩ := hS
     split
     · rename_i hq
       have hc : o.op.chain = false := op_quietC hq
       obtain ⟨rfl, rfl⟩ := quiet_stays hq hx
       obtain ⟨b1, b2⟩ := h2 (by simp [moves, hc])
       simp only [sn, hg] at b1 b2
       exact ⟨b1, xop_mono (fun v a b ⟨e1, _, _⟩ => by subst e1; exact b2) hx⟩
     · rename_i hq
       have hc : o.op.chain = true := op_chain (by simpa using hq) a1 a2
       obtain ⟨b1, b2⟩ := h1 (by simp [moves, hg, hc])
       exact xop_mono (fun v a b ⟨e1, e2, e3⟩ => by subst e1; subst e2; subst e3; exact ⟨b1, b2⟩) hx
 · rename_i hg
   obtain ⟨rfl, rfl, rfl, rfl⟩ := hS
   have := (h2 (by simp [moves, hg])).2
   simpa only [sn, hg, noted] using this
 · exact hS.elim
theorem Stp.congr {o : LOper} {x : AV} (h : ∀ i ∈ o.reads, env'.getD i .unk = env.getD i .unk) (hS : Stp P env H n fs o x H' n' fs') : Stp P env' H n fs o x H' n' fs' := by
 have hg : gate o.g env' = gate o.g env := gate_congr fun i hi => h i (by simp only [LOper.reads, List.mem_append]; exact .inr hi)
 have ho : ∀ i ∈ o.op.reads, env'.getD i .unk = env.getD i .unk := fun i hi => h i (by simp only [LOper.reads, List.mem_append]; exact .inl hi)
 simp only [Stp] at hS ⊢
 rw [hg]
 split at hS
 · split at hS
   · rename_i hop
     rw [hop] at ho
     simp only [LOp.reads] at ho
     rw [fill_congr ho]; exact hS
   · exact hS
   · rename_i a1 a2
     exact ⟨by rw [xop_congr ho]; exact hS.1, hS.2⟩
 · exact hS
 · exact hS
theorem moves_congr {o : LOper} (h : ∀ i ∈ o.reads, env'.getD i .unk = env.getD i .unk) : moves env' o = moves env o ∧ sn env' o = sn env o ∧ fresh1 env' o = fresh1 env o := by
 have hg : gate o.g env' = gate o.g env := gate_congr fun i hi => h i (by simp only [LOper.reads, List.mem_append]; exact .inr hi)
 have ho : seen env' o.op = seen env o.op := seen_congr fun i hi => h i (by simp only [LOper.reads, List.mem_append]; exact .inl hi)
 simp only [moves, sn, fresh1, hg, ho, and_self]
theorem Stp.heap {o : LOper} {x : AV} {H2 : Heap} {n2 : Nat} (hm : moves env o = false) (hs : Eqq H2 H (sn env o)) (hS : Stp P env H n fs o x H' n' fs') : Stp P env H2 n2 fs o x H2 n2 fs' := by
 simp only [Stp] at hS ⊢
 split at hS
 · rename_i hg
   split at hS
   · split at hS
     · exact ⟨hS.1, trivial, trivial, hS.2.2.2⟩
     · exact hS.elim
   · split at hS
     · exact ⟨hS.1, trivial, trivial, hS.2.2.2⟩
     · exact hS.elim
   · rename_i a1 a2
     have hq : o.op.quiet = true := by
      simp only [moves, hg, Bool.true_and] at hm
      exact op_noChain hm a1 a2
     simp only [sn, hg] at hs
     refine ⟨?_, hS.2⟩
     obtain ⟨rfl, rfl⟩ := quiet_stays hq hS.1
     have h3 := xop_quiet (H' := H2) (n' := n2) (K := fun v => x = v) hq hs (xop_mono (fun v a b h => h.1) hS.1)
     obtain ⟨y, Hy, ny, h4, h5⟩ := xop_wit h3
     obtain ⟨rfl, rfl⟩ := quiet_stays hq h4
     subst h5
     exact h4
 · exact ⟨hS.1, trivial, trivial, hS.2.2.2⟩
 · exact hS.elim
theorem Stp.fresh {o : LOper} {x : AV} (hf : fresh1 env o = false) (hS : Stp P env H n fs o x H' n' fs') : fs' = fs ∧ ∀ fs2, Stp P env H n fs2 o x H' n' fs2 := by
 simp only [Stp] at hS ⊢
 split at hS
 · rename_i hg
   split at hS
   · split at hS
     · exact ⟨hS.2.2.2, fun _ => ⟨hS.1, hS.2.1, hS.2.2.1, trivial⟩⟩
     · exact hS.elim
   · rename_i hop
     simp [fresh1, hg, hop, isFresh] at hf
   · exact ⟨hS.2, fun _ => ⟨hS.1, trivial⟩⟩
 · exact ⟨hS.2.2.2, fun _ => ⟨hS.1, hS.2.1, hS.2.2.1, trivial⟩⟩
 · exact hS.elim
theorem Stp.freshed {o : LOper} {x : AV} (hf : fresh1 env o = true) (hS : Stp P env H n fs o x H' n' fs') : fs = none ∧ fs' ≠ none := by
 simp only [Stp] at hS
 split at hS
 · rename_i hg
   split at hS
   · rename_i hop; simp [fresh1, hg, hop, isFresh] at hf
   · split at hS
     · exact ⟨rfl, by rw [hS.2.2.2]; simp⟩
     · exact hS.elim
   · rename_i a1 a2
     simp only [fresh1, hg, Bool.true_and] at hf
     cases ho : o.op <;> simp_all [isFresh]
 · rename_i hg; simp [fresh1, hg] at hf
 · exact hS.elim
theorem chain_moves {o : LOper} (h : o.op.chain = false) : moves env o = false := by simp [moves, h]
theorem moves_chain {o : LOper} (h : moves env o = true) : o.op.chain = true := by simp only [moves, Bool.and_eq_true] at h; exact h.2
theorem moves_fresh {o : LOper} (h : moves env o = true) : fresh1 env o = false := by
 have hc := moves_chain h
 have : isFresh o.op = false := by cases ho : o.op <;> simp_all [isFresh, LOp.chain]
 simp [fresh1, this]
theorem pull {j : LOper} {post : List LOper} : ∀ (pre : List LOper) (hs : List Heap) (ls : List (Nat × List Nat × Option Root)) (env : List AV) (H : Heap) (n : Nat) (fs : Fresh),
 (∀ i ∈ pre, i.free j = true ∧ j.free i = true ∧ (i.op.chain && j.op.chain) = false) → H ∈ hs → xds P K (pre ++ j :: post) hs ls env H n fs →
 ∃ x H' n' fs', Stp P env H n fs j x H' n' fs' ∧ (moves env j = true → kept H' ls ∧ xds P K (pre ++ post) (H' :: hs) ls (put env j.dst x) H' n' fs') ∧
  (moves env j = false → H' = H ∧ n' = n ∧ same H (sn env j) hs ∧ xds P K (pre ++ post) hs ls (put env j.dst x) H n fs')
 | [], hs, ls, env, H, n, fs, _, _, h => by
  obtain ⟨x, H', n', fs', h1, h2, h3⟩ := xds_head h
  refine ⟨x, H', n', fs', h1, h2, fun hm => ?_⟩
  obtain ⟨a1, a2, a3, a4⟩ := h3 hm
  refine ⟨a1, a2, a3, xds_mono (fun _ h => h) (fun H0 hk => ?_) a4⟩
  exact (kept_less hk).1
 | i :: pre, hs, ls, env, H, n, fs, hc, hH, h => by
  obtain ⟨xi, Hi, ni, fi, s1, s2, s3⟩ := xds_head h
  obtain ⟨f1, f2, f3⟩ := hc i (by simp)
  have hc' : ∀ i ∈ pre, i.free j = true ∧ j.free i = true ∧ (i.op.chain && j.op.chain) = false := fun k hk => hc k (by simp [hk])
  have r1 : ∀ k ∈ j.reads, (put env i.dst xi).getD k .unk = env.getD k .unk := reads_put fun d hd => (free_spec f1 d hd).1
  have r1' : ∀ k ∈ j.reads, env.getD k .unk = (put env i.dst xi).getD k .unk := fun k hk => (r1 k hk).symm
  have r2 : ∀ x, ∀ k ∈ i.reads, (put env j.dst x).getD k .unk = env.getD k .unk := fun x => reads_put fun d hd => (free_spec f2 d hd).1
  have pc : ∀ x, put (put env i.dst xi) j.dst x = put (put env j.dst x) i.dst xi := fun x => put_comm fun d hd => (free_spec f1 d hd).2
  obtain ⟨m1, m2, m3⟩ := moves_congr r1
  cases hmi : moves env i with
  | true =>
   obtain ⟨k1, k2⟩ := s2 hmi
   have hjc : j.op.chain = false := by
    have := moves_chain hmi
    cases e : j.op.chain <;> simp_all
   obtain ⟨xj, H', n', fs', t1, _, t3⟩ := pull pre (Hi :: hs) ls (put env i.dst xi) Hi ni fi hc' (by simp) k2
   obtain ⟨rfl, rfl, t4, t5⟩ := t3 (chain_moves hjc)
   obtain ⟨e1, e2⟩ := s1.fresh (moves_fresh hmi)
   subst e1
   rw [m2] at t4
   have q := same_mem t4 (List.mem_cons_of_mem _ hH)
   have t6 : Stp P env H n fi j xj H n fs' := (t1.congr r1').heap (H2 := H) (n2 := n) (chain_moves hjc) q
   refine ⟨xj, H, n, fs', t6, fun hm => ?_, fun _ => ⟨rfl, rfl, same_of fun h0 hh => ?_, ?_⟩⟩
   · rw [chain_moves hjc] at hm; cases hm
   · exact (same_mem t4 (List.mem_cons_of_mem _ hh)).trans q.symm
   · rw [List.cons_append]
     obtain ⟨n1, n2, n3⟩ := moves_congr (r2 xj)
     have sI := (e2 fs').congr (r2 xj)
     refine xds_cons sI (fun _ => ⟨k1, ?_⟩) (fun hm => ?_)
     · rw [← pc]; exact t5
     · rw [n1, hmi] at hm; cases hm
  | false =>
   obtain ⟨rfl, rfl, k3, k4⟩ := s3 hmi
   obtain ⟨xj, H', n', fs', t1, t2, t3⟩ := pull pre hs (noted Hi (sn env i) ls) (put env i.dst xi) Hi ni fi hc' hH k4
   have t1' := t1.congr r1'
   have hfr : ∃ fj, Stp P env Hi ni fs j xj H' n' fj ∧ Stp P env Hi ni fj i xi Hi ni fs' := by
    cases hfi : fresh1 env i with
    | false =>
     obtain ⟨e1, e2⟩ := s1.fresh hfi
     subst e1
     exact ⟨fs', t1', e2 fs'⟩
    | true =>
     obtain ⟨e1, e2⟩ := s1.freshed hfi
     cases hfj : fresh1 env j with
     | true => exact absurd (t1'.freshed hfj).1 e2
     | false =>
      obtain ⟨e3, e4⟩ := t1'.fresh hfj
      subst e3
      exact ⟨fs, e4 fs, s1⟩
   obtain ⟨fj, g1, g2⟩ := hfr
   obtain ⟨n1, n2, n3⟩ := moves_congr (r2 xj)
   refine ⟨xj, H', n', fj, g1, fun hm => ?_, fun hm => ?_⟩
   · obtain ⟨b1, b2⟩ := t2 (by rw [m1]; exact hm)
     obtain ⟨b3, b4⟩ := kept_less b1
     refine ⟨b3, ?_⟩
     rw [List.cons_append]
     have sI := (g2.congr (r2 xj)).heap (H2 := H') (n2 := n') (by rw [n1]; exact hmi) (by rw [n2]; exact b4)
     refine xds_cons sI (fun hm2 => by rw [n1, hmi] at hm2; cases hm2) (fun _ => ⟨?_, ?_⟩)
     · rw [n2]
       refine same_of fun h0 hh => ?_
       rcases List.mem_cons.1 hh with rfl | hh
       · exact Eqq.refl
       · exact (same_mem k3 hh).trans b4.symm
     · rw [n2, ← pc]
       have : noted H' (sn env i) ls = noted Hi (sn env i) ls := by
        cases hq : sn env i with
        | none => rfl
        | some p =>
         obtain ⟨r, π⟩ := p
         rw [hq] at b4
         simp only [noted, show H'.get r π = Hi.get r π from b4]
       rw [this]; exact b2
   · obtain ⟨rfl, rfl, b3, b4⟩ := t3 (by rw [m1]; exact hm)
     rw [m2] at b3
     refine ⟨rfl, rfl, b3, ?_⟩
     rw [List.cons_append]
     refine xds_cons (g2.congr (r2 xj)) (fun hm2 => by rw [n1, hmi] at hm2; cases hm2) (fun _ => ⟨by rw [n2]; exact k3, ?_⟩)
     rw [n2, ← pc]; exact b4
end
end Go.Proofs.Ytmjphjphgjmojaa
