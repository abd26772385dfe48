/- The law of HostDrop answers true. -/
import Derived.Test.YtlikfpmbcdlnjaaPHM
import Derived.Test.YtlikfpmbcdlnjaaPHR
import Derived.Test.YtlikfpmbcdlnjaaWFD1
namespace Go.Proofs.Ytlikfpmbcdlnjaa
set_option linter.all false
theorem drawDrop_d {xs : List Int} (hx : ∀ x ∈ xs, 0 ≤ x ∧ x ≤ 255) : Ex (F_spec_DrawHostDrop xs) (fun v => SmallH v.1) := by
 unfold F_spec_DrawHostDrop
 refine Ex.bind (open_d hx) fun r R => ?_
 refine Ex.bind (host_d R (by omega) (by omega)) fun v ⟨R2, hs⟩ => ?_
 refine Ex.bind (pick_d R2 (by omega) (by omega)) fun v3 ⟨R3, _, _⟩ => ?_
 exact Ex.bind (pick_d R3 (by omega) (by omega)) fun v4 ⟨R4, _, _⟩ => Ex.ret hs
theorem fnHostDrop_e {xs : List Int} (hx : ∀ x ∈ xs, 0 ≤ x ∧ x ≤ 255) : Ex (F_laws_FnHostDrop xs) (fun b => b = true) := by
 have al : Ex (Option.bind F_laws_alive fun v => some v) (fun b => b = true) := Ex.bind (alive_d (Q := fun b => b = true) rfl) fun b hb => Ex.ret hb
 unfold F_laws_FnHostDrop
 refine Ex.cond (fun _ => Ex.ret rfl) fun _ => ?_
 refine Ex.bind (drawDrop_d hx) fun v hs => ?_
 obtain ⟨h, g⟩ := v
 have hs : SmallH h := hs
 have hz := drop_small (g := g) hs
 rw [hostDrop_i hs, Option.bind_some, hostDrop_s hs, Option.bind_some, beq_self_eq_true, Bool.not_true, cond_false, sameHost_refl hz, Option.bind_some, Bool.not_true, cond_false, drop_snd]
 simp only []
 cases ht : M.there h g with
 | false => exact al
 | true =>
  rw [Bool.not_true, cond_false, hostView_i hz, Option.bind_some, hostOk_i hz, Option.bind_some, drop_hostOk ht, cond_true, drop_gone ht, Bool.not_false, cond_true, drop_views hs ht]
  exact Ex.ret rfl
theorem fnHostDrop_t {xs : List Int} (hx : ∀ x ∈ xs, 0 ≤ x ∧ x ≤ 255) : F_laws_FnHostDrop xs = some true := by
 obtain ⟨_, h, rfl⟩ := fnHostDrop_e hx; exact h
end Go.Proofs.Ytlikfpmbcdlnjaa
