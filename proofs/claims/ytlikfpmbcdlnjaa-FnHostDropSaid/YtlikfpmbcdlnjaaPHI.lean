/- HostBoot: the program's function and the model's answer alike. -/
import Derived.Test.YtlikfpmbcdlnjaaPHF
import Derived.Test.YtlikfpmbcdlnjaaPHV
import Derived.Test.YtlikfpmbcdlnjaaPHD
import Derived.Test.YtlikfpmbcdlnjaaWHB1
namespace Go.Proofs.Ytlikfpmbcdlnjaa
set_option linter.all false
namespace M
def zeros (xs : List Int) : Bool := (List.range 8).all fun k => decide (xs.getD k default = 0)
def used (mem : List Int) : Nat → Nat
 | 0 => 0
 | p + 1 => used mem p + (bif zeros (page mem p) then 0 else 1)
def slotFor (mem free : List Int) (p : Nat) : DSlot := bif zeros (page mem p) then ⟨-1, false, false⟩ else ⟨free.getD (used mem p) default, true, false⟩
def slotsFor (mem free : List Int) (n : Nat) : List DSlot := (List.range n).map (slotFor mem free)
def wordsFor (mem free : List Int) (ws : List Int) : Nat → List Int
 | 0 => ws
 | p + 1 => bif zeros (page mem p) then wordsFor mem free ws p else over (wordsFor mem free ws p) ((free.getD (used mem p) default).toNat * 8) 8 (page mem p)
noncomputable def gone (gs : List DGuest) : Int := bif (gs.getD 0 default).Live then (bif (gs.getD 1 default).Live then (bif (gs.getD 2 default).Live then -1 else 2) else 1) else 0
noncomputable def booted (h : DHost) (b : DBare) : DHost := ⟨wordsFor b.Mem (free (slots h.Guests)) h.Words 8, h.Guests.set (gone h.Guests).toNat ⟨true, b.C, slotsFor b.Mem (free (slots h.Guests)) 8, b.In, b.Out⟩⟩
noncomputable def hostBoot (h : DHost) (b : DBare) : DHost × Int × Bool := bif hostOk h && bareOk b && (!decide (gone h.Guests = -1) && decide (used b.Mem 8 ≤ (free (slots h.Guests)).length)) then (booted h b, gone h.Guests, true) else (⟨[], []⟩, -1, false)
end M
theorem used_mono {mem : List Int} {p q : Nat} (h : p ≤ q) : M.used mem p ≤ M.used mem q := by
 induction h with
 | refl => exact Nat.le_refl _
 | step _ ih => exact Nat.le_trans ih (by rw [M.used]; omega)
theorem enough_iff {mem : List Int} {L n : Nat} : ((List.range n).all fun p => M.zeros (M.page mem p) || decide (M.used mem p < L)) = decide (M.used mem n ≤ L) := by
 apply dbe
 simp only [List.all_eq_true, List.mem_range, Bool.or_eq_true, decide_eq_true_eq]
 constructor
 · intro h
   induction n with
   | zero => simp [M.used]
   | succ n ih =>
    have h1 := ih fun p hp => h p (by omega)
    rcases h n (by omega) with h2 | h2
    · rw [M.used, h2]; exact h1
    · rw [M.used]; cases M.zeros (M.page mem n) <;> simp <;> omega
 · intro h p hp
   cases hz : M.zeros (M.page mem p) with
   | true => exact .inl rfl
   | false =>
    have := used_mono (mem := mem) (show p + 1 ≤ n by omega)
    rw [M.used, hz] at this
    simp only [cond_false] at this
    exact .inr (by omega)
theorem free_range {ss : List DSlot} {i : Nat} (hi : i < (M.free ss).length) : 0 ≤ (M.free ss).getD i default ∧ (M.free ss).getD i default < 20 := by
 have hm := getD_mem hi
 rw [free_iff] at hm
 obtain ⟨j, hj, e⟩ := List.mem_map.1 hm
 have := (List.mem_filter.1 hj).1
 rw [List.mem_range] at this
 rw [free_iff, ← e]; omega
theorem page8 {xs : List Int} {p : Nat} (h : p * 8 + 8 ≤ xs.length) : (M.page xs p).length = 8 := page_len h
theorem wordsFor_len {mem ws : List Int} {ss : List DSlot} (hw : ws.length = 160) : ∀ {p : Nat}, p ≤ 8 → M.used mem p ≤ (M.free ss).length → (M.wordsFor mem (M.free ss) ws p).length = 160
 | 0, _, _ => hw
 | p + 1, h8, hu => by
  have eu : M.used mem (p + 1) = M.used mem p + (bif M.zeros (M.page mem p) then 0 else 1) := rfl
  have ih := wordsFor_len (mem := mem) (ss := ss) hw (p := p) (by omega) (by omega)
  unfold M.wordsFor
  cases hz : M.zeros (M.page mem p) with
  | true => rw [cond_true]; exact ih
  | false =>
   rw [hz] at eu
   simp only [cond_false] at eu
   have := free_range (ss := ss) (i := M.used mem p) (by omega)
   rw [cond_false, over_len3 (by omega), ih]
theorem gone_range (gs : List DGuest) : -1 ≤ M.gone gs ∧ M.gone gs ≤ 2 := by
 unfold M.gone
 cases (gs.getD 0 default).Live <;> cases (gs.getD 1 default).Live <;> cases (gs.getD 2 default).Live <;> simp
theorem bOk_parts {b : DBare} (h : M.bareOk b = true) : b.Mem.length = 64 := by
 unfold M.bareOk at h
 simp only [Bool.and_eq_true] at h
 exact memOk_len h.1.1.2
end Go.Proofs.Ytlikfpmbcdlnjaa
