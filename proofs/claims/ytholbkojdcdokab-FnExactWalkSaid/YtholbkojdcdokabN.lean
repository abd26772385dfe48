/- A law's arguments, opened for the abstract machine; and a law whose walk in the machine answers true. No program is named here. -/
import Derived.Test.YtholbkojdcdokabS
import Derived.Test.YtholbkojdcdokabF
import Derived.Test.YtholbkojdcdokabL
namespace Go.Proofs.Ytholbkojdcdokab
open Go.ChangeShapes Go.WideShapes Go.ChangeAt Go.RowKit

mutual
def Dat.av : Dat → AV
  | .int n => .int .i64 n
  | .bool b => .bool b
  | .sl _ n xs => .bor n (avs xs)
def avs : List Dat → List AV
  | [] => []
  | d :: ds => d.av :: avs ds
end

section
variable {W : World} {β : Nat → Spot}

mutual
theorem Rep.rv : ∀ {d : Dat} {v : Value}, Rep W d v → RV W 0 β d.av v ∧ v.oneCell' = true
  | .int n, v, h => by
    simp only [Rep] at h
    obtain ⟨rfl, h1, h2⟩ := h
    exact ⟨by simp only [Dat.av, RV, IntKind.min, IntKind.max, IntKind.signed, IntKind.bits]; exact ⟨trivial, by simpa using h1, by simp; omega⟩, rfl⟩
  | .bool b, v, h => by simp only [Rep] at h; subst h; exact ⟨by simp [Dat.av, RV], rfl⟩
  | .sl _ n xs, v, h => by
    simp only [Rep] at h
    obtain ⟨s, cap, vs, rfl, h2, h3, h4, h5, h6⟩ := h
    refine ⟨?_, rfl⟩
    simp only [Dat.av, RV]
    exact ⟨s, cap, vs, rfl, h2, by unfold maxLen; omega, h5, Reps.rv h6⟩
theorem Reps.rv : ∀ {ds : List Dat} {vs : List Value}, Reps W ds vs → RVs W 0 β (avs ds) vs
  | [], _, h => by simp only [Reps] at h; subst h; simp [avs, RVs]
  | d :: ds, _, h => by
    simp only [Reps] at h
    obtain ⟨v, vs', rfl, h1, h2⟩ := h
    simp only [avs, RVs]
    exact ⟨v, vs', rfl, (Rep.rv h1).2, (Rep.rv h1).1, Reps.rv h2⟩
end

theorem avs_append : ∀ {xs ys : List Dat}, avs (xs ++ ys) = avs xs ++ avs ys
  | [], _ => rfl
  | _ :: xs, ys => by simp [avs, avs_append (xs := xs)]

theorem avs_ints : ∀ {xs : List Int}, avs (xs.map Dat.int) = xs.map (AV.int .i64)
  | [] => rfl
  | _ :: xs => by simp [avs, Dat.av, avs_ints (xs := xs)]

/-- A slice of ints. -/
theorem fit_ints {d : Dat} (h : Fit (.sl 1 [.int]) d) : ∃ xs : List Int, d.av = .bor xs.length (xs.map (AV.int .i64)) := by
  simp only [Fit] at h
  obtain ⟨rows, rfl, h⟩ := h
  have key : ∀ rows : List (List Dat), (∀ r ∈ rows, Fits [.int] r) → ∃ xs : List Int, xs.length = rows.length ∧ rows.flatten = xs.map Dat.int := by
    intro rows
    induction rows with
    | nil => intro _; exact ⟨[], rfl, rfl⟩
    | cons r rows ih =>
      intro h
      obtain ⟨xs, h1, h2⟩ := ih fun r' hr' => h r' (by simp [hr'])
      have h3 := h r (by simp)
      simp only [Fits, Fit] at h3
      obtain ⟨d, ds, rfl, ⟨n, rfl⟩, rfl⟩ := h3
      exact ⟨n :: xs, by simp [h1], by simp [h2]⟩
  obtain ⟨xs, h1, h2⟩ := key rows h
  exact ⟨xs, by simp only [Dat.av, h2, avs_ints, h1]⟩

variable {H : Type} {enc : TypeId × Value → H} {P : Program} {spare : Nat → Bool} {held : Bool} {r : Reach} {b0 : Nat} {t : TypeId} {v : Value} {d : DataW H} {ps : List MemPlace}

theorem arg_int (ht : P.underlying t = some (.int .i64)) (hval : Value.okWide P W r b0 t v) (hd : DataW.Trod enc P W 0 spare held t v d ps) : ∃ n : Int, RV W 0 β (.int .i64 n) v := by
  obtain ⟨n, rfl, _, _, hw⟩ := open_int ht hval hd
  have := bounds_i64 hw
  exact ⟨n, by simp only [RV, IntKind.min, IntKind.max, IntKind.signed, IntKind.bits]; exact ⟨trivial, by simpa using this.1, by simp; omega⟩⟩

theorem arg_bool (ht : P.underlying t = some .bool) (hval : Value.okWide P W r b0 t v) : ∃ b : Bool, RV W 0 β (.bool b) v := by
  simp only [Value.okWide, ht, Cell.okWide] at hval
  cases v <;> simp_all [Cell.ok, RV]

theorem arg_agg {fs : Array Field} {n : Nat} {ss : List Sh} (ht : P.underlying t = some (.struct fs)) (hs : shapes P n t = some ss) (hval : Value.okWide P W r b0 t v) (hd : DataW.Trod enc P W 0 spare held t v d ps) :
    ∃ ds, Fits ss ds ∧ RV W 0 β (.agg (avs ds)) v := by
  simp only [Value.okWide, ht] at hval
  obtain ⟨cs, rfl, _, _⟩ := hval
  obtain ⟨fuel, hf⟩ := hd
  obtain ⟨ds, h1, h2⟩ := reads_of_trod n fuel t ss hs _ _ hf
  exact ⟨ds, h2, by simp only [RV]; exact ⟨cs, rfl, h1.rv⟩⟩

theorem arg_slice {e : TypeId} {n : Nat} {s : Sh} (ht : P.underlying t = some (.slice e)) (hs : shapes P n t = some [s]) (hval : Value.okWide P W r b0 t v) (hd : DataW.Trod enc P W 0 spare held t v d ps) :
    ∃ x, Fit s x ∧ RV W 0 β x.av v := by
  obtain ⟨fuel, hf⟩ := hd
  obtain ⟨ds, h1, h2⟩ := reads_of_trod n fuel t _ hs _ _ hf
  simp only [Fits] at h2
  obtain ⟨x, ds', rfl, h3, rfl⟩ := h2
  simp only [Reps] at h1
  obtain ⟨u, us, e1, h4, rfl⟩ := h1
  have hv : v.cells = #[v] := by
    simp only [Value.okWide, ht, Cell.okWide] at hval
    cases v <;> simp_all [Cell.ok, Value.cells]
  rw [hv] at e1
  simp at e1
  subst e1
  exact ⟨x, h3, (Rep.rv h4).1⟩

theorem law_of_pur {f : FuncId} {xs : List AV} {args : Array Value} (hp : Pur P f xs (.bool true) [] 0) (hv : RVt W 0 (fun _ => ⟨0, 0⟩) xs args.toList) :
    Calls P f args W fun e w' => e = .returned (.bool true) ∧ Below W.heap.size W w' := by
  have := hp W _ args.toList hv
  simp only [Array.toArray_toList] at this
  refine this.mono fun e w' ⟨v, β', he, h1, _, h3⟩ => ?_
  simp only [RV] at h1
  exact ⟨by rw [he, h1], h3⟩
end
end Go.Proofs.Ytholbkojdcdokab
