/- Regions whose order is open, in the machine with trees: one walk in the text's order serves all orders. No program is named here. -/
import Derived.Test.YtmjphjphgjmojaaZK2
namespace Go.Proofs.Ytmjphjphgjmojaa
set_option linter.all false
open Go.RowKit
abbrev Fresh := Option (Nat × TypeId × List AV)
def gate (g : Option (Nat × Bool)) (env : List AV) : Option Bool := match g with
 | none => some true
 | some (t, want) => match env.getD t .unk with
  | .bool b => some (decide (b = want))
  | .und => some false
  | _ => none
def seen (env : List AV) : LOp → Option (Nat × List Nat)
 | .load _ _ a => match a.val env with
  | .ptr r π _ => some (r, π)
  | _ => none
 | _ => none
def Eqq (A B : Heap) : Option (Nat × List Nat) → Prop
 | some (r, π) => A.get r π = B.get r π
 | none => True
theorem Eqq.symm {A B : Heap} {q : Option (Nat × List Nat)} (h : Eqq A B q) : Eqq B A q := by
 cases q with
 | none => trivial
 | some q => exact Eq.symm h
theorem Eqq.trans {A B C : Heap} {q : Option (Nat × List Nat)} (h : Eqq A B q) (k : Eqq B C q) : Eqq A C q := by
 cases q with
 | none => trivial
 | some q => exact Eq.trans h k
theorem Eqq.refl {A : Heap} {q : Option (Nat × List Nat)} : Eqq A A q := by
 cases q with
 | none => trivial
 | some q => exact Eq.refl (A.get q.1 q.2)
def same (H : Heap) (q : Option (Nat × List Nat)) : List Heap → Prop
 | [] => True
 | h :: hs => Eqq h H q ∧ same H q hs
def noted (H : Heap) : Option (Nat × List Nat) → List (Nat × List Nat × Option Root) → List (Nat × List Nat × Option Root)
 | some (r, π), ls => (r, π, H.get r π) :: ls
 | none, ls => ls
def kept (H : Heap) : List (Nat × List Nat × Option Root) → Prop
 | [] => True
 | (r, π, t) :: ls => H.get r π = t ∧ kept H ls
abbrev DK := List AV → Heap → Nat → Fresh → Prop
def xdq (P : Program) (env : List AV) (H : Heap) (n : Nat) (hs : List Heap) (K : AV → Prop) (op : LOp) : Prop := same H (seen env op) hs ∧ xop P env H n (fun v _ _ => K v) op
def frozenOf (m : Nat) (cs : List AV) : AV := match m with | 0 => .emp | _ => .bor m cs
def xds (P : Program) (K : DK) : List LOper → List Heap → List (Nat × List Nat × Option Root) → List AV → Heap → Nat → Fresh → Prop
 | [], _, _, env, H, n, fs => K env H n fs
 | o :: os, hs, ls, env, H, n, fs => match gate o.g env with
  | some true => match o.op with
   | .bsl _ _ m z ps => match fillParts env (repeatCells z m) ps with
    | some cs => xds P K os hs ls (put env o.dst (frozenOf m cs)) H n fs
    | none => False
   | .fresh e z => match fs, o.dst with
    | none, some d => xds P K os hs ls (put env (some d) .unk) H n (some (d, e, z))
    | _, _ => False
   | op => match op.quiet with
    | true => xdq P env H n hs (fun v => xds P K os hs (noted H (seen env op) ls) (put env o.dst v) H n fs) op
    | false => xop P env H n (fun v H' n' => kept H' ls ∧ xds P K os (H' :: hs) ls (put env o.dst v) H' n' fs) op
  | some false => xds P K os hs ls (put env o.dst .und) H n fs
  | none => False
def Stp (P : Program) (env : List AV) (H : Heap) (n : Nat) (fs : Fresh) (o : LOper) (x : AV) (H' : Heap) (n' : Nat) (fs' : Fresh) : Prop :=
 match gate o.g env with
 | some true => match o.op with
  | .bsl _ _ m z ps => match fillParts env (repeatCells z m) ps with
   | some cs => x = (frozenOf m cs) ∧ H' = H ∧ n' = n ∧ fs' = fs
   | none => False
  | .fresh e z => match fs, o.dst with
   | none, some d => x = .unk ∧ H' = H ∧ n' = n ∧ fs' = some (d, e, z)
   | _, _ => False
  | op => xop P env H n (fun v a b => x = v ∧ H' = a ∧ n' = b) op ∧ fs' = fs
 | some false => x = .und ∧ H' = H ∧ n' = n ∧ fs' = fs
 | none => False
section
variable {P : Program} {env env' : List AV} {H H' : Heap} {n n' : Nat}
theorem xbin_mono {op : BinOp} {k : IntKind} {a b : Int} {K1 K2 : AV → Prop} (hk : ∀ v, K1 v → K2 v) (h : xbin op k a b K1) : xbin op k a b K2 := by
 cases op <;> simp only [xbin] at h ⊢
 all_goals first
  | exact hk _ h
  | exact ⟨h.1, hk _ h.2⟩
theorem xbin_wit {op : BinOp} {k : IntKind} {a b : Int} {K : AV → Prop} (h : xbin op k a b K) : ∃ x, xbin op k a b (fun v => x = v) ∧ K x := by
 cases op <;> simp only [xbin] at h ⊢
 case quo => exact ⟨_, ⟨h.1, rfl⟩, h.2⟩
 case rem => exact ⟨_, ⟨h.1, rfl⟩, h.2⟩
 all_goals exact ⟨_, rfl, h⟩
theorem xop_wit {K : AV → Heap → Nat → Prop} {op : LOp} (h : xop P env H n K op) : ∃ x H' n', xop P env H n (fun v a b => x = v ∧ H' = a ∧ n' = b) op ∧ K x H' n' := by
 cases op <;> simp only [xop] at h ⊢
 case bin op x y =>
  split at h
  · obtain ⟨h1, h2⟩ := h
    obtain ⟨v, h3, h4⟩ := xbin_wit h2
    exact ⟨v, H, n, ⟨h1, xbin_mono (fun w hw => ⟨hw, rfl, rfl⟩) h3⟩, h4⟩
  · exact h.elim
 case un op x =>
  simp only [xun] at h ⊢
  split at h
  · exact ⟨_, _, _, ⟨rfl, rfl, rfl⟩, h⟩
  · exact ⟨_, _, _, ⟨rfl, rfl, rfl⟩, h⟩
  · exact h.elim
 case call f xs =>
  obtain ⟨r, H', n', h1, h2⟩ := h
  exact ⟨r, H', n', ⟨r, H', n', h1, rfl, rfl, rfl⟩, h2⟩
 case pick c a b =>
  split at h
  · rename_i t ht
    cases t
    · exact ⟨b.val env, H, n, by simp, by simpa using h⟩
    · exact ⟨a.val env, H, n, by simp, by simpa using h⟩
  · exact h.elim
 all_goals
  repeat' (split at h)
  all_goals first
   | exact h.elim
   | exact ⟨_, _, _, ⟨rfl, rfl, rfl⟩, h⟩
   | exact ⟨_, _, _, ⟨h.1, rfl, rfl, rfl⟩, h.2⟩
   | exact ⟨_, _, _, ⟨h.1, h.2.1, rfl, rfl, rfl⟩, h.2.2⟩
theorem xop_mono {K K' : AV → Heap → Nat → Prop} {op : LOp} (hk : ∀ x a b, K x a b → K' x a b) (h : xop P env H n K op) : xop P env H n K' op := by
 cases op <;> simp only [xop] at h ⊢
 case bin op x y =>
  split at h
  · exact ⟨h.1, xbin_mono (fun w hw => hk _ _ _ hw) h.2⟩
  · exact h.elim
 case un op x =>
  simp only [xun] at h ⊢
  split at h
  · exact hk _ _ _ h
  · exact hk _ _ _ h
  · exact h.elim
 case call f xs =>
  obtain ⟨r, H', n', h1, h2⟩ := h
  exact ⟨r, H', n', h1, hk _ _ _ h2⟩
 case pick c a b =>
  split at h
  · rename_i t ht
    cases t
    · simpa using hk _ _ _ (by simpa using h)
    · simpa using hk _ _ _ (by simpa using h)
  · exact h.elim
 all_goals
  repeat' (split at h)
  all_goals first
   | exact h.elim
   | exact hk _ _ _ h
   | exact ⟨h.1, hk _ _ _ h.2⟩
   | exact ⟨h.1, h.2.1, hk _ _ _ h.2.2⟩
theorem xop_quiet {K : AV → Prop} {op : LOp} (hq : op.quiet = true) (hs : match seen env op with | some (r, π) => H'.get r π = H.get r π | none => True)
 (h : xop P env H n (fun v _ _ => K v) op) : xop P env H' n' (fun v _ _ => K v) op := by
 cases op <;> simp only [LOp.quiet, Bool.false_eq_true] at hq <;> simp only [xop] at h ⊢ <;> simp only [seen] at hs
 case load ag m a =>
  split at h
  · rename_i r π o e
    simp only [e] at hs
    rw [hs]; exact h
  · exact h
  · exact h.elim
 all_goals exact h
theorem val_congr {x : Opd} (h : ∀ i ∈ x.tmps, env'.getD i .unk = env.getD i .unk) : x.val env' = x.val env := by
 cases x with
 | t i => exact h i (by simp [Opd.tmps])
 | c v => rfl
theorem fill_congr {ps : List (Nat × Nat × Opd)} : ∀ {cs : List AV}, (∀ i ∈ ps.flatMap (fun p => p.2.2.tmps), env'.getD i .unk = env.getD i .unk) → fillParts env' cs ps = fillParts env cs ps := by
 induction ps with
 | nil => intro cs _; rfl
 | cons p ps ih =>
  intro cs h
  obtain ⟨off, sz, x⟩ := p
  simp only [List.flatMap_cons, List.mem_append] at h
  simp only [fillParts]
  rw [val_congr fun i hi => h i (.inl hi)]
  split
  · split
    · exact ih fun i hi => h i (.inr hi)
    · rfl
  · rfl
theorem bound_congr {x : Option Opd} {d : Int} (h : ∀ i ∈ optTmps x, env'.getD i .unk = env.getD i .unk) : boundOf env' x d = boundOf env x d := by
 cases x with
 | none => rfl
 | some x => simp only [boundOf]; rw [val_congr h]
theorem xop_congr {K : AV → Heap → Nat → Prop} {op : LOp} (h : ∀ i ∈ op.reads, env'.getD i .unk = env.getD i .unk) : xop P env' H n K op = xop P env H n K op := by
 cases op <;> simp only [LOp.reads, List.mem_append] at h <;> simp only [xop]
 case pick c a b => rw [val_congr fun i hi => h i (.inl hi), val_congr fun i hi => h i (.inr (.inl hi)), val_congr fun i hi => h i (.inr (.inr hi))]
 case bld z ps => rw [fill_congr h]
 case bsl e sz m z ps => rw [fill_congr h]
 case slc sz x lo hi =>
  rw [val_congr (x := x) fun i hi => h i (.inl hi), bound_congr (x := lo) fun i hi => h i (.inr (.inl hi))]
  have : ∀ d, boundOf env' hi d = boundOf env hi d := fun d => bound_congr fun i hi => h i (.inr (.inr hi))
  simp only [this]
 case call f xs =>
  have : xs.map (·.val env') = xs.map (·.val env) := List.map_congr_left fun x hx => val_congr fun i hi => h i (List.mem_flatMap.2 ⟨x, hx, hi⟩)
  rw [this]
 all_goals first
  | rw [val_congr h]
  | (rw [val_congr fun i hi => h i (.inl hi), val_congr fun i hi => h i (.inr hi)]; done)
theorem seen_congr {op : LOp} (h : ∀ i ∈ op.reads, env'.getD i .unk = env.getD i .unk) : seen env' op = seen env op := by
 cases op <;> first | rfl | (simp only [LOp.reads] at h; simp only [seen]; rw [val_congr h])
theorem gate_congr {g : Option (Nat × Bool)} (h : ∀ i ∈ (match g with | some (t, _) => [t] | none => []), env'.getD i .unk = env.getD i .unk) : gate g env' = gate g env := by
 cases g with
 | none => rfl
 | some p => obtain ⟨t, want⟩ := p; simp only [gate]; rw [h t (by simp)]
theorem put_getD {d : Option Nat} {x : AV} {i : Nat} (h : d ≠ some i) : (put env d x).getD i .unk = env.getD i .unk := by
 cases d with
 | none => rfl
 | some d =>
  simp only [put]
  rw [getD_set, if_neg]
  rintro ⟨rfl, _⟩
  exact h rfl
theorem put_comm {d d' : Option Nat} {x y : AV} (h : ∀ i, d = some i → d' ≠ some i) : put (put env d x) d' y = put (put env d' y) d x := by
 cases d with
 | none => rfl
 | some d =>
  cases d' with
  | none => rfl
  | some d' => simp only [put]; exact List.set_comm _ _ (fun e => h d rfl (by rw [e]))
theorem reads_put {o : LOper} {d : Option Nat} {x : AV} (h : ∀ i, d = some i → i ∉ o.reads) : ∀ i ∈ o.reads, (put env d x).getD i .unk = env.getD i .unk :=
 fun i hi => put_getD fun e => h i e hi
theorem same_mem {q : Option (Nat × List Nat)} {H0 : Heap} : ∀ {hs : List Heap}, same H q hs → H0 ∈ hs → Eqq H0 H q
 | [], _, h => by cases h
 | h0 :: hs, h, hm => by
  simp only [same] at h
  rcases List.mem_cons.1 hm with rfl | hm
  · exact h.1
  · exact same_mem h.2 hm
theorem same_of {q : Option (Nat × List Nat)} : ∀ {hs : List Heap}, (∀ h0 ∈ hs, Eqq h0 H q) → same H q hs
 | [], _ => trivial
 | h0 :: hs, h => ⟨h h0 (by simp), same_of fun k hk => h k (by simp [hk])⟩
end
end Go.Proofs.Ytmjphjphgjmojaa
