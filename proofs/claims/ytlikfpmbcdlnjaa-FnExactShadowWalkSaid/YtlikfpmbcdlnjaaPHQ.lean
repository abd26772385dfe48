/- Copies of rows and cores. -/
import Derived.Test.YtlikfpmbcdlnjaaPO
import Derived.Test.YtlikfpmbcdlnjaaWHC1
namespace Go.Proofs.Ytlikfpmbcdlnjaa
set_option linter.all false
theorem over_all {T : Type} {xs ys : List T} (h : xs.length = ys.length) : over xs 0 xs.length ys = ys := by
 simp only [over, h, Nat.min_self, List.take_length, Nat.zero_add, List.take_zero, List.nil_append]
 rw [List.drop_eq_nil_of_le (by omega), List.append_nil]
theorem copied_eq {xs : List Int} (h : xs.length ≤ 1048576) : F_impl_copied xs = some xs := by
 unfold F_impl_copied
 rw [grd_t ⟨by omega, by omega, by omega⟩, over_all (by simp)]
theorem core_s {c : DCore} (h : SmallC c) : F_spec_l3Core c = some c := by
 have := h.regs
 unfold F_spec_l3Core
 rw [grd_t ⟨by simp; omega, by simp; omega⟩]; rfl
end Go.Proofs.Ytlikfpmbcdlnjaa
