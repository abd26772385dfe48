/- Whatever the form reads of a type that is made of int, bool, slices and structs reads as a datum of that type's shape. No program is named here. -/
import Derived.Test.YtmjphjphgjmojaaZQ
import Derived.DataReads
import Derived.Deep.Slices
import Derived.Deep.MidRow
import Derived.OpenShut
namespace Go.Proofs.Ytmjphjphgjmojaa
set_option linter.all false
open Go.ChangeShapes Go.WideShapes Go.ChangeAt Go.RowKit
inductive Sh where
 | int
 | u8
 | bool
 | sl (sz : Nat) (es : List Sh)
mutual
def Fit : Sh → Dat → Prop
 | .int, d => ∃ n, d = .int n
 | .u8, d => ∃ n, d = .u8 n
 | .bool, d => ∃ b, d = .bool b
 | .sl sz es, d => ∃ rows : List (List Dat), d = .sl sz rows.length rows.flatten ∧ ∀ r ∈ rows, Fits es r
def Fits : List Sh → List Dat → Prop
 | [], ds => ds = []
 | s :: ss, ds => ∃ d ds', ds = d :: ds' ∧ Fit s d ∧ Fits ss ds'
end
theorem Fits.append : ∀ {ss ts : List Sh} {ds es : List Dat}, Fits ss ds → Fits ts es → Fits (ss ++ ts) (ds ++ es)
 | [], _, _, _, h, k => by simp only [Fits] at h; subst h; simpa using k
 | _ :: _, _, _, _, h, k => by
  simp only [Fits, List.cons_append] at h ⊢
  obtain ⟨d, ds', rfl, h1, h2⟩ := h
  exact ⟨d, ds' ++ _, rfl, h1, Fits.append h2 k⟩
theorem Fits.length : ∀ {ss : List Sh} {ds : List Dat}, Fits ss ds → ds.length = ss.length
 | [], _, h => by simp only [Fits] at h; simp [h]
 | _ :: _, _, h => by
  simp only [Fits] at h
  obtain ⟨d, ds', rfl, _, h2⟩ := h
  simp [Fits.length h2]
def fieldShapes (P : Program) (sh : TypeId → Option (List Sh)) : Nat → List Field → Option (List Sh)
 | _, [] => some []
 | off, f :: fs =>
  if f.offset = off then
   match sh f.type with
   | some s => if s.length = P.cellsOf f.type then (fieldShapes P sh (off + P.cellsOf f.type) fs).map (s ++ ·) else none
   | none => none
  else none
def shapes (P : Program) : Nat → TypeId → Option (List Sh)
 | 0, _ => none
 | n + 1, t =>
  match P.underlying t with
  | some .bool => some [.bool]
  | some (.int .i64) => some [.int]
  | some (.int .u8) => some [.u8]
  | some (.slice e) =>
   match shapes P n e with
   | some es => if es.length = P.cellsOf e ∧ 0 < P.cellsOf e then some [.sl (P.cellsOf e) es] else none
   | none => none
  | some (.struct fs) =>
   match fieldShapes P (shapes P n) 0 fs.toList with
   | some ss => if ss.length = P.cellsOf t then some ss else none
   | none => none
  | _ => none
section
variable {H : Type} {enc : TypeId × Value → H} {P : Program} {w : World} {spare : Nat → Bool} {held : Bool}
theorem fields_reads {n f : Nat} (ih : ∀ t ss, shapes P n t = some ss → ∀ cs (x : DataW H × List MemPlace), DataW.trod enc P w 0 spare held f t cs = some x → ∃ ds, Reps w ds cs ∧ Fits ss ds) :
 ∀ (fs : List Field) (off : Nat) (ss : List Sh) (cs : List Value) (xs : List (DataW H × List MemPlace)), fieldShapes P (shapes P n) off fs = some ss →
  fs.mapM (fun g => DataW.trod enc P w 0 spare held f g.type ((cs.drop g.offset).take (P.cellsOf g.type))) = some xs → cs.length = off + ss.length →
  ∃ ds, Reps w ds (cs.drop off) ∧ Fits ss ds
 | [], off, ss, cs, xs, h, _, hl => by
  simp only [fieldShapes, Option.some.injEq] at h
  subst h
  refine ⟨[], ?_, by simp [Fits]⟩
  simp only [Reps]
  exact List.drop_eq_nil_of_le (by simp at hl; omega)
 | g :: fs, off, ss, cs, xs, h, hx, hl => by
  unfold fieldShapes at h
  split at h
  · rename_i ho
    split at h
    · rename_i s hs
      split at h
      · rename_i hsl
        obtain ⟨ss', hss, rfl⟩ := Option.map_eq_some_iff.1 h
        have h0 := mapM_some_get hx 0 g rfl
        obtain ⟨x0, hx0⟩ : ∃ x0, DataW.trod enc P w 0 spare held f g.type ((cs.drop g.offset).take (P.cellsOf g.type)) = some x0 := by
         have hl0 := mapM_some_length hx
         rw [h0]
         cases xs with
         | nil => simp at hl0
         | cons a b => exact ⟨a, rfl⟩
        obtain ⟨d0, r0, f0⟩ := ih _ _ hs _ _ hx0
        have hx' : fs.mapM (fun g => DataW.trod enc P w 0 spare held f g.type ((cs.drop g.offset).take (P.cellsOf g.type))) = some xs.tail := by
         rw [List.mapM_cons] at hx
         simp only [hx0, Option.bind_eq_bind, Option.bind_some] at hx
         cases hm : fs.mapM (fun g => DataW.trod enc P w 0 spare held f g.type ((cs.drop g.offset).take (P.cellsOf g.type))) with
         | none => rw [hm] at hx; simp at hx
         | some ys => rw [hm] at hx; simp at hx; subst hx; rfl
        obtain ⟨d1, r1, f1⟩ := fields_reads ih fs (off + P.cellsOf g.type) ss' cs xs.tail hss hx' (by simp at hl; omega)
        refine ⟨d0 ++ d1, ?_, f0.append f1⟩
        have e : cs.drop off = (cs.drop off).take (P.cellsOf g.type) ++ cs.drop (off + P.cellsOf g.type) := by
         rw [← List.drop_drop]; exact (List.take_append_drop _ _).symm
        rw [e]
        rw [ho] at r0
        exact r0.append r1
      · cases h
    · cases h
  · cases h
theorem cells_get {a : Addr} {n : Nat} {cs : List Value} (h : w.cells? 0 a n = some cs) : cs.length = n ∧ ∀ i, i < n → w.cell? (a.add i) = some (cs.getD i undef) := by
 unfold World.cells? at h
 rw [if_pos (Nat.zero_le _)] at h
 have hl := mapM_some_length h
 simp at hl
 refine ⟨hl, fun i hi => ?_⟩
 have := mapM_some_get h i i (by simp [hi])
 rw [this, List.getD, List.getElem?_eq_getElem (by omega)]
 rfl
theorem gather {a : Addr} {sz : Nat} {es : List Sh} : ∀ (len : Nat), (∀ i, i < len → ∃ ci, w.cells? 0 (a.add (i * sz)) sz = some ci ∧ ∃ row, Reps w row ci ∧ Fits es row) →
 ∃ (rows : List (List Dat)) (vs : List Value), rows.length = len ∧ Reps w rows.flatten vs ∧ (∀ r ∈ rows, Fits es r) ∧ vs.length = len * sz ∧ ∀ j, j < len * sz → w.cell? (a.add j) = some (vs.getD j undef)
 | 0, _ => ⟨[], [], rfl, by simp [Reps], by simp, by simp, fun j hj => by omega⟩
 | len + 1, h => by
  obtain ⟨rows, vs, h1, h2, h3, h4, h5⟩ := gather len (fun i hi => h i (by omega))
  obtain ⟨ci, c1, row, c2, c3⟩ := h len (by omega)
  obtain ⟨g1, g2⟩ := cells_get c1
  refine ⟨rows ++ [row], vs ++ ci, by simp [h1], by simpa using h2.append c2, fun r hr => ?_, by rw [List.length_append, h4, g1, Nat.succ_mul], fun j hj => ?_⟩
  · rcases List.mem_append.1 hr with hr | hr
    · exact h3 r hr
    · simp at hr; subst hr; exact c3
  · rw [Nat.succ_mul] at hj
    by_cases hlt : j < len * sz
    · rw [h5 j hlt]; simp only [List.getD]; rw [List.getElem?_append_left (by omega)]
    · have e := g2 (j - len * sz) (by omega)
      rw [Go.Deep.add_add] at e
      rw [show len * sz + (j - len * sz) = j by omega] at e
      rw [e]; simp only [List.getD]; rw [List.getElem?_append_right (by omega), h4]
theorem rowW_cells {a : Addr} {vs : List Value} (h : ∀ j, j < vs.length → w.cell? (a.add j) = some (vs.getD j undef)) : RowW w (some a) vs := by
 by_cases hn : vs = []
 · exact .inl hn
 · right
   have hp : 0 < vs.length := by cases vs <;> simp_all
   obtain ⟨b, off, spot⟩ := a
   have hspot : spot = none := by simpa [Addr.add] using World.cell?_spot (h 0 hp)
   subst hspot
   have h0 := h 0 hp
   refine ⟨b, off, rfl, ?_, fun i hi => ?_⟩
   · simp only [Addr.add] at h0
     unfold World.cell? at h0
     cases hh : w.heap[b]? with
     | none => simp [hh] at h0
     | some o => exact (Array.getElem?_eq_some_iff.1 hh).1
   · have := h i hi
     rwa [Addr.add_mid] at this
theorem reads_of_trod : ∀ (n f : Nat) (t : TypeId) (ss : List Sh), shapes P n t = some ss → ∀ (cs : List Value) (x : DataW H × List MemPlace), DataW.trod enc P w 0 spare held f t cs = some x →
 ∃ ds, Reps w ds cs ∧ Fits ss ds
 | 0, _, _, _, h, _, _, _ => by simp [shapes] at h
 | n + 1, 0, _, _, _, _, _, hx => by simp [DataW.trod] at hx
 | n + 1, f + 1, t, ss, h, cs, x, hx => by
  unfold shapes at h
  split at h
  · rename_i ht
    simp only [Option.some.injEq] at h; subst h
    unfold DataW.trod at hx; rw [ht] at hx
    split at hx <;> simp_all
    rename_i b
    exact ⟨[.bool b], by simp [Reps, Rep], by simp [Fits, Fit]⟩
  · rename_i ht
    simp only [Option.some.injEq] at h; subst h
    unfold DataW.trod at hx; rw [ht] at hx
    split at hx <;> simp_all
    rename_i n e
    subst e
    have hb := bounds_i64 hx.1.2
    exact ⟨[.int n], by simp [Reps, Rep, hb], by simp [Fits, Fit]⟩
  · rename_i ht
    simp only [Option.some.injEq] at h; subst h
    unfold DataW.trod at hx; rw [ht] at hx
    split at hx <;> simp_all
    rename_i n e
    subst e
    have hb := bounds_u8 hx.1.2
    exact ⟨[.u8 n], by simp [Reps, Rep, hb], by simp [Fits, Fit]⟩
  · rename_i e ht
    split at h
    · rename_i es hes
      split at h
      · rename_i hsz
        simp only [Option.some.injEq] at h; subst h
        rcases DataW.trod_slice ht hx with ⟨rfl, _⟩ | ⟨a, len, cap, elems, rest, m, hm, rfl, _, _, hl, hc, hel, hget, _, _⟩
        · refine ⟨[.sl (P.cellsOf e) 0 []], ?_, ?_⟩
          · simp only [Reps, Rep]
            exact ⟨_, _, rfl, ⟨none, 0, [], rfl, Nat.le_refl _, by omega, by simp, .inl rfl, rfl⟩, rfl⟩
          · simp only [Fits, Fit]
            exact ⟨_, _, rfl, ⟨[], rfl, by simp⟩, rfl⟩
        · have hm' : m = f := by omega
          subst hm'
          have key : ∀ i, i < len → ∃ ci, w.cells? 0 (a.add (i * P.cellsOf e)) (P.cellsOf e) = some ci ∧ ∃ row, Reps w row ci ∧ Fits es row := by
           intro i hi
           have := hget i hi
           rw [List.getElem?_eq_getElem (by omega)] at this
           obtain ⟨ci, h1, h2⟩ := Option.bind_eq_some_iff.1 this
           obtain ⟨row, h3, h4⟩ := reads_of_trod n m e es hes ci _ h2
           exact ⟨ci, h1, row, h3, h4⟩
          obtain ⟨rows, vs, g1, g2, g3, g4, g5⟩ := gather len key
          refine ⟨[.sl (P.cellsOf e) rows.length rows.flatten], ?_, ?_⟩
          · simp only [Reps, Rep]
            refine ⟨_, _, rfl, ⟨some a, cap, vs, by rw [g1], by omega, by unfold maxLen at hc; omega, ?_, rowW_cells (fun j hj => g5 j (by omega)), g2⟩, rfl⟩
            rw [← g2.length, g4, g1]
          · simp only [Fits, Fit]
            exact ⟨_, _, rfl, ⟨rows, rfl, g3⟩, rfl⟩
      · cases h
    · cases h
  · rename_i fs ht
    split at h
    · rename_i ss' hss
      split at h
      · rename_i hlen
        simp only [Option.some.injEq] at h; subst h
        unfold DataW.trod at hx; rw [ht] at hx
        split at hx <;> simp_all
        obtain ⟨hcl, xs, hm, _⟩ := hx
        have := fields_reads (fun t ss h cs x hx => reads_of_trod n f t ss h cs x hx) _ 0 ss' _ xs hss hm (by omega)
        simpa using this
      · cases h
    · cases h
  · cases h
end
end Go.Proofs.Ytmjphjphgjmojaa
