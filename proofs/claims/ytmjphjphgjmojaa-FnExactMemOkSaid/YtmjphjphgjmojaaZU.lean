/- A law's arguments, opened for the machine with trees; and a law whose plain function answers true. No program is named here. -/
import Derived.Test.YtmjphjphgjmojaaZV
import Derived.Test.YtmjphjphgjmojaaF
import Derived.Test.YtmjphjphgjmojaaZS
namespace Go.Proofs.Ytmjphjphgjmojaa
set_option linter.all false
open Go.ChangeShapes Go.WideShapes Go.ChangeAt Go.RowKit
mutual
def Dat.av : Dat → AV
 | .int n => .int .i64 n
 | .u8 n => .int .u8 n
 | .bool b => .bool b
 | .sl _ n xs => .bor n (avs xs)
def avs : List Dat → List AV
 | [] => []
 | d :: ds => d.av :: avs ds
end
def FzW (W : World) : Fz := fun b => (W.heap[b]?).map fun o => (true, o)
theorem keepW {W : World} : Keep (FzW W) W := fun b x h => by
 unfold FzW at h
 obtain ⟨o, ho, rfl⟩ := Option.map_eq_some_iff.1 h
 exact ho
section
variable {W : World} {n : Nat} {β : Spots}
theorem row_of {s : Option Addr} {vs : List Value} (h : RowW W s vs) : RowOf (FzW W) s vs := by
 rcases h with h | ⟨b, o, rfl, hlt, hc⟩
 · exact .inl h
 · by_cases hv : vs = []
   · exact .inl hv
   · have hl : 0 < vs.length := by cases vs <;> simp_all
     have hb : W.heap[b]? = some W.heap[b] := Array.getElem?_eq_getElem hlt
     have h0 := hc 0 hl
     cases ho : W.heap[b] with
     | cells cs e fz =>
      refine .inr ⟨b, o, cs, e, fz, rfl, by simp [FzW, hlt, ho], fun i hi => ?_⟩
      have := hc i hi
      simp only [World.cell?, hb, ho] at this
      simpa using this
     | _ => simp [World.cell?, hb, ho] at h0
mutual
theorem Rep.rv : ∀ {d : Dat} {v : Value}, Rep W d v → RV (FzW W) n β d.av v ∧ v.oneCell' = true
 | .int n, v, h => by
  simp only [Rep] at h
  obtain ⟨rfl, h1, h2⟩ := h
  exact ⟨by simp only [Dat.av, RV, IntKind.min, IntKind.max, IntKind.signed, IntKind.bits]; exact ⟨trivial, by simpa using h1, by simp; omega⟩, rfl⟩
 | .u8 n, v, h => by
  simp only [Rep] at h
  obtain ⟨rfl, h1, h2⟩ := h
  exact ⟨by simp only [Dat.av, RV, IntKind.min, IntKind.max, IntKind.signed, IntKind.bits]; exact ⟨trivial, by simpa using h1, by simp; omega⟩, rfl⟩
 | .bool b, v, h => by simp only [Rep] at h; subst h; exact ⟨by simp [Dat.av, RV], rfl⟩
 | .sl _ n xs, v, h => by
  simp only [Rep] at h
  obtain ⟨s, cap, vs, rfl, h2, h3, h4, h5, h6⟩ := h
  refine ⟨?_, rfl⟩
  simp only [Dat.av, RV]
  exact ⟨s, cap, vs, rfl, h2, by unfold maxLen; omega, row_of h5, Reps.rv h6⟩
theorem Reps.rv : ∀ {ds : List Dat} {vs : List Value}, Reps W ds vs → RVs (FzW W) n β (avs ds) vs
 | [], _, h => by simp only [Reps] at h; subst h; simp [avs, RVs]
 | d :: ds, _, h => by
  simp only [Reps] at h
  obtain ⟨v, vs', rfl, h1, h2⟩ := h
  simp only [avs, RVs]
  exact ⟨v, vs', rfl, (Rep.rv h1).2, (Rep.rv h1).1, Reps.rv h2⟩
end
theorem avs_append : ∀ {xs ys : List Dat}, avs (xs ++ ys) = avs xs ++ avs ys
 | [], _ => rfl
 | _ :: xs, ys => by simp [avs, avs_append (xs := xs)]
def InI (n : Int) : Prop := -9223372036854775808 ≤ n ∧ n ≤ 9223372036854775807
def okL {T : Type} (p : T → Prop) (xs : List T) : Prop := xs.length ≤ 9223372036854775807 ∧ ∀ x ∈ xs, p x
def InB (n : Int) : Prop := 0 ≤ n ∧ n ≤ 255
def okB : Bool → Prop := fun _ => True
mutual
def Dat.ok : Dat → Prop
 | .int n => InI n
 | .u8 n => InB n
 | .bool _ => True
 | .sl _ n xs => n ≤ 9223372036854775807 ∧ oks xs
def oks : List Dat → Prop
 | [] => True
 | d :: ds => d.ok ∧ oks ds
end
mutual
theorem Rep.ok : ∀ {d : Dat} {v : Value}, Rep W d v → d.ok
 | .int n, v, h => by simp only [Rep] at h; exact h.2
 | .u8 n, v, h => by simp only [Rep] at h; exact h.2
 | .bool b, v, h => trivial
 | .sl _ n xs, v, h => by
  simp only [Rep] at h
  obtain ⟨s, cap, vs, rfl, h2, h3, h4, h5, h6⟩ := h
  exact ⟨Nat.le_trans h2 h3, Reps.ok h6⟩
theorem Reps.ok : ∀ {ds : List Dat} {vs : List Value}, Reps W ds vs → oks ds
 | [], _, h => trivial
 | d :: ds, _, h => by
  simp only [Reps] at h
  obtain ⟨v, vs', rfl, h1, h2⟩ := h
  exact ⟨Rep.ok h1, Reps.ok h2⟩
end
theorem oks_append : ∀ {xs ys : List Dat}, oks (xs ++ ys) → oks xs ∧ oks ys
 | [], _, h => ⟨trivial, h⟩
 | _ :: xs, ys, h => ⟨⟨h.1, (oks_append h.2).1⟩, (oks_append h.2).2⟩
theorem fit_i {d : Dat} (h : Fit .int d) (ho : d.ok) : ∃ n, d.av = .int .i64 n ∧ InI n := by
 simp only [Fit] at h; obtain ⟨n, rfl⟩ := h; exact ⟨n, rfl, ho⟩
theorem fit_u {d : Dat} (h : Fit .u8 d) (ho : d.ok) : ∃ n, d.av = .int .u8 n ∧ InB n := by
 simp only [Fit] at h; obtain ⟨n, rfl⟩ := h; exact ⟨n, rfl, ho⟩
theorem fit_b {d : Dat} (h : Fit .bool d) (_ : d.ok) : ∃ b, d.av = .bool b ∧ okB b := by
 simp only [Fit] at h; obtain ⟨n, rfl⟩ := h; exact ⟨n, rfl, trivial⟩
theorem fit_rows {T : Type} {c : T → List AV} {p : T → Prop} {sz : Nat} {es : List Sh} (hr : ∀ r, Fits es r → oks r → ∃ x, avs r = c x ∧ p x) {d : Dat} (h : Fit (.sl sz es) d) (ho : d.ok) : ∃ xs : List T, d.av = .bor xs.length (fl c xs) ∧ okL p xs := by
 simp only [Fit] at h
 obtain ⟨rows, rfl, h⟩ := h
 have key : ∀ rows : List (List Dat), (∀ r ∈ rows, Fits es r) → oks rows.flatten → ∃ xs : List T, xs.length = rows.length ∧ avs rows.flatten = fl c xs ∧ ∀ x ∈ xs, p x := by
  intro rows
  induction rows with
  | nil => intro _ _; exact ⟨[], rfl, rfl, by simp⟩
  | cons r rows ih =>
   intro h ho
   simp only [List.flatten_cons] at ho
   obtain ⟨o1, o2⟩ := oks_append ho
   obtain ⟨xs, h1, h2, h3⟩ := ih (fun r' hr' => h r' (by simp [hr'])) o2
   obtain ⟨x, hx, hp⟩ := hr r (h r (by simp)) o1
   exact ⟨x :: xs, by simp [h1], by simp only [List.flatten_cons, avs_append, hx, h2]; rfl, by simpa using ⟨hp, h3⟩⟩
 obtain ⟨xs, h1, h2, h3⟩ := key rows h ho.2
 exact ⟨xs, by simp only [Dat.av, h2, h1], by have := ho.1; rw [← h1] at this; exact this, h3⟩
theorem fits_i {ds : List Dat} (h : Fits [.int] ds) (ho : oks ds) : ∃ z, avs ds = eI .i64 z ∧ InI z := by
 simp only [Fits] at h
 obtain ⟨d, ds', rfl, h1, rfl⟩ := h
 obtain ⟨z, hz, hi⟩ := fit_i h1 ho.1
 exact ⟨z, by simp [avs, hz, eI], hi⟩
theorem fits_u {ds : List Dat} (h : Fits [.u8] ds) (ho : oks ds) : ∃ z, avs ds = eI .u8 z ∧ InB z := by
 simp only [Fits] at h
 obtain ⟨d, ds', rfl, h1, rfl⟩ := h
 obtain ⟨z, hz, hi⟩ := fit_u h1 ho.1
 exact ⟨z, by simp [avs, hz, eI], hi⟩
theorem fits_b {ds : List Dat} (h : Fits [.bool] ds) (ho : oks ds) : ∃ z, avs ds = eB z ∧ okB z := by
 simp only [Fits] at h
 obtain ⟨d, ds', rfl, h1, rfl⟩ := h
 obtain ⟨z, hz, hi⟩ := fit_b h1 ho.1
 exact ⟨z, by simp [avs, hz, eB], hi⟩
theorem fits_c {s : Sh} {ss : List Sh} {ds : List Dat} (h : Fits (s :: ss) ds) (ho : oks ds) : ∃ d ds', ds = d :: ds' ∧ Fit s d ∧ d.ok ∧ Fits ss ds' ∧ oks ds' := by
 simp only [Fits] at h
 obtain ⟨d, ds', rfl, h1, h2⟩ := h
 exact ⟨d, ds', rfl, h1, ho.1, h2, ho.2⟩
theorem fits_n {ds : List Dat} (h : Fits [] ds) : ds = [] := by simpa only [Fits] using h
variable {H : Type} {enc : TypeId × Value → H} {P : Program} {spare : Nat → Bool} {held : Bool} {r : Reach} {b0 : Nat} {t : TypeId} {v : Value} {d : DataW H} {ps : List MemPlace}
theorem arg_int (ht : P.underlying t = some (.int .i64)) (hval : Value.okWide P W r b0 t v) (hd : DataW.Trod enc P W 0 spare held t v d ps) : ∃ z : Int, InI z ∧ RV (FzW W) n β (.int .i64 z) v := by
 obtain ⟨z, rfl, _, _, hw⟩ := open_int ht hval hd
 have := bounds_i64 hw
 exact ⟨z, ⟨by simpa using this.1, by simpa using this.2⟩, by simp only [RV, IntKind.min, IntKind.max, IntKind.signed, IntKind.bits]; exact ⟨trivial, by simpa using this.1, by simp; omega⟩⟩
theorem arg_bool (ht : P.underlying t = some .bool) (hval : Value.okWide P W r b0 t v) : ∃ b : Bool, RV (FzW W) n β (.bool b) v := by
 simp only [Value.okWide, ht, Cell.okWide] at hval
 cases v <;> simp_all [Cell.ok, RV]
theorem arg_agg {fs : Array Field} {k : Nat} {ss : List Sh} (ht : P.underlying t = some (.struct fs)) (hs : shapes P k t = some ss) (hval : Value.okWide P W r b0 t v) (hd : DataW.Trod enc P W 0 spare held t v d ps) :
 ∃ ds, Fits ss ds ∧ oks ds ∧ RV (FzW W) n β (.agg (avs ds)) v := by
 simp only [Value.okWide, ht] at hval
 obtain ⟨cs, rfl, _, _⟩ := hval
 obtain ⟨fuel, hf⟩ := hd
 obtain ⟨ds, h1, h2⟩ := reads_of_trod k fuel t ss hs _ _ hf
 exact ⟨ds, h2, h1.ok, by simp only [RV]; exact ⟨cs, rfl, h1.rv⟩⟩
theorem arg_slice {e : TypeId} {k : Nat} {s : Sh} (ht : P.underlying t = some (.slice e)) (hs : shapes P k t = some [s]) (hval : Value.okWide P W r b0 t v) (hd : DataW.Trod enc P W 0 spare held t v d ps) :
 ∃ x, Fit s x ∧ x.ok ∧ RV (FzW W) n β x.av v := by
 obtain ⟨fuel, hf⟩ := hd
 obtain ⟨ds, h1, h2⟩ := reads_of_trod k fuel t _ hs _ _ hf
 simp only [Fits] at h2
 obtain ⟨x, ds', rfl, h3, rfl⟩ := h2
 simp only [Reps] at h1
 obtain ⟨u, us, e1, h4, rfl⟩ := h1
 have hv : v.cells = #[v] := by
  simp only [Value.okWide, ht, Cell.okWide] at hval
  cases v <;> simp_all [Cell.ok, Value.cells]
 rw [hv] at e1
 simp at e1
 subst e1
 exact ⟨x, h3, h4.ok, (Rep.rv h4).1⟩
theorem law_of_fn {f : FuncId} {xs : List AV} {args : Array Value} (hp : Fn P f xs (.bool true)) (hc : cleans xs = true) (hv : RVt (FzW W) 0 (fun _ _ => ⟨false, 0, 0⟩) xs args.toList) :
 Calls P f args W fun e w' => e = .returned (.bool true) ∧ Below W.heap.size W w' := by
 have hz : ∀ xs : List AV, cleans xs = true → Cloz [] xs xs := by
  intro xs
  induction xs with
  | nil => intro _; rfl
  | cons x xs ih =>
   intro h
   simp only [cleans, Bool.and_eq_true] at h
   exact ⟨x, xs, rfl, .clean x h.1, ih h.2⟩
 have := hp.flat_call (H := []) rfl (hz xs hc) RH.empty keepW hv
 simpa [AV.conc, Go.Proofs.Ytmjphjphgjmojaa.conc1] using this
end
end Go.Proofs.Ytmjphjphgjmojaa
