/- TagDrop: the program's function and the model's answer alike; its exact law. -/
import Derived.Test.YtbnjdmclnojlmaaPYM
import Derived.Test.YtbnjdmclnojlmaaPZ0
import Derived.Test.YtbnjdmclnojlmaaWTD1
namespace Go.Proofs.Ytbnjdmclnojlmaa
set_option linter.all false
namespace M
def tagDrop (xs : List DLine) (g : Int) : List DLine := xs.filter fun x => !decide (x.Tag = g)
end M
theorem drop_step {xs : List DLine} {g : Int} {i : Nat} (hi : i < xs.length) : M.tagDrop (xs.take (i + 1)) g = M.tagDrop (xs.take i) g ++ (bif !decide ((xs.getD i default).Tag = g) then [xs.getD i default] else []) := by
 have e : xs.take (i + 1) = xs.take i ++ [xs.getD i default] := by
  rw [List.take_add_one, getD_lt hi, List.getElem?_eq_getElem hi]; rfl
 unfold M.tagDrop
 rw [e, List.filter_append]
 refine congrArg _ ?_
 simp only [List.filter_cons, List.filter_nil]
 cases !decide ((xs.getD i default).Tag = g) <;> rfl
theorem drop_len {xs : List DLine} {g : Int} : (M.tagDrop xs g).length ≤ xs.length := List.length_filter_le _ _
theorem tagDrop_i {xs : List DLine} {g : Int} (h : xs.length ≤ 1048576) : F_impl_TagDrop xs g = some (M.tagDrop xs g) := by
 have key := walk_loop (n := xs.length) (step := F_impl_TagDrop_l2 xs g) (fun i => (M.tagDrop (xs.take i) g, (i : Int))) (fun _ => true) (.go (M.tagDrop xs g)) (.go []) (fun i hi _ => by
  have hl := drop_len (xs := xs.take i) (g := g)
  have h1 : (i : Int) < (xs.length : Int) := by omega
  rw [List.length_take] at hl
  simp only [F_impl_TagDrop_l2, decide_eq_true h1, cond_true]
  rw [grd_t ⟨by omega, h1⟩, Int.toNat_natCast, drop_step hi, Int.natCast_add]
  cases hb : !decide ((xs.getD i default).Tag = g) with
  | false => simp only [cond_false, Option.bind_some, JO.run, F_impl_TagDrop_j3, List.append_nil]; rw [w64_in (by omega) (by omega)]; rfl
  | true =>
   simp only [cond_true, List.length_cons, List.length_nil]
   rw [grd_t ⟨by omega, by omega⟩]
   simp only [Option.bind_some, JO.run, F_impl_TagDrop_j3]; rw [w64_in (by omega) (by omega)]; rfl) (fun _ => by
  simp only [F_impl_TagDrop_l2]; rw [decide_eq_false (by omega), cond_false, List.take_length])
 have e : (List.range xs.length).all (fun _ => true) = true := by simp
 rw [e] at key
 unfold F_impl_TagDrop
 show Option.bind (Option.bind (iter (F_impl_TagDrop_l2 xs g) (M.tagDrop (xs.take 0) g, 0)) LO.val) _ = _
 rw [show ((0 : Int)) = ((0 : Nat) : Int) from rfl, key]; rfl
theorem tagDrop_s {xs : List DLine} {g : Int} (h : xs.length ≤ 1048576) : F_spec_TagDrop xs g = some (M.tagDrop xs g) := by
 have key := walk_loop (n := xs.length) (step := F_spec_TagDrop_l2 xs g) (fun i => (M.tagDrop (xs.take i) g, (i : Int))) (fun _ => true) (.go (M.tagDrop xs g)) (.go []) (fun i hi _ => by
  have hl := drop_len (xs := xs.take i) (g := g)
  have h1 : (i : Int) < (xs.length : Int) := by omega
  rw [List.length_take] at hl
  simp only [F_spec_TagDrop_l2, decide_eq_true h1, cond_true]
  rw [grd_t ⟨by omega, h1⟩, Int.toNat_natCast, drop_step hi, Int.natCast_add]
  cases hb : !decide ((xs.getD i default).Tag = g) with
  | false => simp only [cond_false, Option.bind_some, JO.run, F_spec_TagDrop_j3, List.append_nil]; rw [w64_in (by omega) (by omega)]; rfl
  | true =>
   simp only [cond_true, List.length_cons, List.length_nil]
   rw [grd_t ⟨by omega, h1⟩, grd_t ⟨by omega, by omega⟩]
   simp only [Option.bind_some, JO.run, F_spec_TagDrop_j3]; rw [w64_in (by omega) (by omega)]; rfl) (fun _ => by
  simp only [F_spec_TagDrop_l2]; rw [decide_eq_false (by omega), cond_false, List.take_length])
 have e : (List.range xs.length).all (fun _ => true) = true := by simp
 rw [e] at key
 unfold F_spec_TagDrop
 show Option.bind (Option.bind (iter (F_spec_TagDrop_l2 xs g) (M.tagDrop (xs.take 0) g, 0)) LO.val) _ = _
 rw [show ((0 : Int)) = ((0 : Nat) : Int) from rfl, key]; rfl
end Go.Proofs.Ytbnjdmclnojlmaa
