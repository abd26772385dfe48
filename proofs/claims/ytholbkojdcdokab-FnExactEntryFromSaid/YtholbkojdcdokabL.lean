/- The steps of the abstract machine as equations, none of them told to the kernel as a mere unfolding. No program is named here. -/
import Derived.Test.YtholbkojdcdokabK
namespace Go.Proofs.Ytholbkojdcdokab
open Go.RowKit

section
variable {P : Program} {env : List AV} {H : Heap} {n : Nat} {K : AV → Heap → Nat → Prop} {Kq : AV → Prop} {v w : AV} {vs ws as : List AV} {i k o : Nat} {α : Type}

theorem xopE_mv {x : Opd} : xop P env H n K (.mv x) = (K (x.val env) H n) := (rfl)
theorem xopE_box {e : TypeId} {x : Opd} : xop P env H n K (.box e x) = (match (x.val env).cells with
      | some cs => K (.ptr n 0) ((n, some ⟨e, cs⟩) :: H) (n + 1)
      | none => False) := (rfl)
theorem xopE_fresh {e : TypeId} {z : List AV} : xop P env H n K (.fresh e z) = (K (.ptr n 0) ((n, some ⟨e, z⟩) :: H) (n + 1)) := (rfl)
theorem xopE_bld {z : List AV} {ps : List (Nat × Nat × Opd)} : xop P env H n K (.bld z ps) = (match fillParts env z ps with
      | some cs => K (.agg cs) H n
      | none => False) := (rfl)
theorem xopE_bsl {e : TypeId} {sz : Nat} {m : Nat} {z : List AV} {ps : List (Nat × Nat × Opd)} : xop P env H n K (.bsl e sz m z ps) = (match fillParts env (repeatCells z m) ps with
      | some cs => K (.sref n 0 m sz) ((n, some ⟨e, cs⟩) :: H) (n + 1)
      | none => False) := (rfl)
theorem xopE_load {ag : Bool} {m : Nat} {a : Opd} : xop P env H n K (.load ag m a) = (match a.val env with
      | .ptr r o => match H.get r with
        | some t => o + m ≤ t.cs.length ∧ (ag = false → m = 1) ∧ K (pickCells ag t.cs o m) H n
        | none => False
      | .bptr cs o => o + m ≤ cs.length ∧ (ag = false → m = 1) ∧ K (pickCells ag cs o m) H n
      | _ => False) := (rfl)
theorem xopE_store {m : Nat} {a : Opd} {x : Opd} : xop P env H n K (.store m a x) = (match a.val env, (x.val env).cells with
      | .ptr r o, some vs => match H.get r with
        | some t => vs.length = m ∧ o + m ≤ t.cs.length ∧ K .und ((r, some ⟨t.e, setCells t.cs o vs⟩) :: H) n
        | none => False
      | _, _ => False) := (rfl)
theorem xopE_bin {op : BinOp} {x : Opd} {y : Opd} : xop P env H n K (.bin op x y) = (match x.val env, y.val env with
      | .int k a, .int k' b => k = k' ∧ xbin op k a b fun v => K v H n
      | _, _ => False) := (rfl)
theorem xopE_binb {ng : Bool} {x : Opd} {y : Opd} : xop P env H n K (.binb ng x y) = (match x.val env, y.val env with
      | .bool a, .bool b => K (.bool (match ng with | true => !(a == b) | false => a == b)) H n
      | _, _ => False) := (rfl)
theorem xopE_un {op : UnOp} {x : Opd} : xop P env H n K (.un op x) = (xun op (x.val env) fun v => K v H n) := (rfl)
theorem xopE_mk {e : TypeId} {sz : Nat} {bytes : Nat} {z : List AV} {l : Opd} : xop P env H n K (.mk e sz bytes z l) = (match l.val env with
      | .int .i64 m => (0 ≤ m ∧ m * bytes ≤ 2 ^ 47 ∧ m ≤ 2 ^ 47) ∧ K (.sref n 0 m.toNat sz) ((n, some ⟨e, repeatCells z m.toNat⟩) :: H) (n + 1)
      | _ => False) := (rfl)
theorem xopE_fadr {off : Nat} {x : Opd} : xop P env H n K (.fadr off x) = (match x.val env with
      | .ptr r o => K (.ptr r (o + off)) H n
      | .bptr cs o => K (.bptr cs (o + off)) H n
      | _ => False) := (rfl)
theorem xopE_fld {ag : Bool} {off : Nat} {m : Nat} {x : Opd} : xop P env H n K (.fld ag off m x) = (match x.val env with
      | .agg cs => off + m ≤ cs.length ∧ (ag = false → m = 1) ∧ K (pickCells ag cs off m) H n
      | _ => False) := (rfl)
theorem xopE_iadr {sz : Nat} {x : Opd} {i : Opd} : xop P env H n K (.iadr sz x i) = (match x.val env, i.val env with
      | .sref r o m sz', .int _ k => (sz' = sz ∧ 0 ≤ k ∧ k < m) ∧ K (.ptr r (o + k.toNat * sz)) H n
      | .bor m cs, .int _ k => (0 ≤ k ∧ k < m ∧ k.toNat * sz < cs.length) ∧ K (.bptr cs (k.toNat * sz)) H n
      | _, _ => False) := (rfl)
theorem xopE_ext {x : Opd} {i : Nat} : xop P env H n K (.ext x i) = (match x.val env with
      | .tup vs => i < vs.length ∧ K (vs.getD i .unk) H n
      | _ => False) := (rfl)
theorem xopE_len {x : Opd} : xop P env H n K (.len x) = (match x.val env with
      | .sref _ _ m _ => K (.int .i64 m) H n
      | .bor m _ => K (.int .i64 m) H n
      | .nil => K (.int .i64 0) H n
      | _ => False) := (rfl)
theorem xqE_mv {a0 : Opd} : xq P env H n Kq (.mv a0) = xop P env H n (fun v _ _ => Kq v) (.mv a0) := by simp only [xq, LOp.quiet, true_and]
theorem xqE_bld {a0 : List AV} {a1 : List (Nat × Nat × Opd)} : xq P env H n Kq (.bld a0 a1) = xop P env H n (fun v _ _ => Kq v) (.bld a0 a1) := by simp only [xq, LOp.quiet, true_and]
theorem xqE_load {a0 : Bool} {a1 : Nat} {a2 : Opd} : xq P env H n Kq (.load a0 a1 a2) = xop P env H n (fun v _ _ => Kq v) (.load a0 a1 a2) := by simp only [xq, LOp.quiet, true_and]
theorem xqE_bin {a0 : BinOp} {a1 : Opd} {a2 : Opd} : xq P env H n Kq (.bin a0 a1 a2) = xop P env H n (fun v _ _ => Kq v) (.bin a0 a1 a2) := by simp only [xq, LOp.quiet, true_and]
theorem xqE_binb {a0 : Bool} {a1 : Opd} {a2 : Opd} : xq P env H n Kq (.binb a0 a1 a2) = xop P env H n (fun v _ _ => Kq v) (.binb a0 a1 a2) := by simp only [xq, LOp.quiet, true_and]
theorem xqE_un {a0 : UnOp} {a1 : Opd} : xq P env H n Kq (.un a0 a1) = xop P env H n (fun v _ _ => Kq v) (.un a0 a1) := by simp only [xq, LOp.quiet, true_and]
theorem xqE_fadr {a0 : Nat} {a1 : Opd} : xq P env H n Kq (.fadr a0 a1) = xop P env H n (fun v _ _ => Kq v) (.fadr a0 a1) := by simp only [xq, LOp.quiet, true_and]
theorem xqE_fld {a0 : Bool} {a1 : Nat} {a2 : Nat} {a3 : Opd} : xq P env H n Kq (.fld a0 a1 a2 a3) = xop P env H n (fun v _ _ => Kq v) (.fld a0 a1 a2 a3) := by simp only [xq, LOp.quiet, true_and]
theorem xqE_iadr {a0 : Nat} {a1 : Opd} {a2 : Opd} : xq P env H n Kq (.iadr a0 a1 a2) = xop P env H n (fun v _ _ => Kq v) (.iadr a0 a1 a2) := by simp only [xq, LOp.quiet, true_and]
theorem xqE_ext {a0 : Opd} {a1 : Nat} : xq P env H n Kq (.ext a0 a1) = xop P env H n (fun v _ _ => Kq v) (.ext a0 a1) := by simp only [xq, LOp.quiet, true_and]
theorem xqE_len {a0 : Opd} : xq P env H n Kq (.len a0) = xop P env H n (fun v _ _ => Kq v) (.len a0) := by simp only [xq, LOp.quiet, true_and]

theorem val_t : Opd.val env (.t i) = env.getD i .unk := (rfl)
theorem val_c : Opd.val env (.c v) = v := (rfl)
theorem put_some : put env (some i) v = env.set i v := (rfl)
theorem put_none : put env none v = env := (rfl)
theorem set_zero : (v :: vs).set 0 w = w :: vs := (rfl)
theorem set_succ : (v :: vs).set (i + 1) w = v :: vs.set i w := (rfl)
theorem getD_zero : (v :: vs).getD 0 w = v := (rfl)
theorem getD_succ : (v :: vs).getD (i + 1) w = vs.getD i w := (rfl)
theorem get_cons {r : Option Root} : Heap.get ((k, r) :: H) i = if k = i then r else Heap.get H i := (rfl)
theorem get_nil : Heap.get [] i = none := (rfl)
theorem setCells_nil : setCells vs o [] = vs := (rfl)
theorem setCells_cons : setCells vs o (v :: ws) = setCells (vs.set o v) (o + 1) ws := (rfl)
theorem cells_nil : AV.cells .nil = some [.nil] := (rfl)
theorem cells_bool {b : Bool} : AV.cells (.bool b) = some [.bool b] := (rfl)
theorem cells_int {k : IntKind} {z : Int} : AV.cells (.int k z) = some [.int k z] := (rfl)
theorem cells_ptr {r o : Nat} : AV.cells (.ptr r o) = some [.ptr r o] := (rfl)
theorem cells_sref {r o m s : Nat} : AV.cells (.sref r o m s) = some [.sref r o m s] := (rfl)
theorem cells_bor {m : Nat} : AV.cells (.bor m vs) = some [.bor m vs] := (rfl)
theorem cells_bptr {o : Nat} : AV.cells (.bptr vs o) = some [.bptr vs o] := (rfl)
theorem cells_agg : AV.cells (.agg vs) = some vs := (rfl)
theorem pickCells_t : pickCells true vs o i = .agg ((vs.drop o).take i) := (rfl)
theorem pickCells_f : pickCells false vs o i = vs.getD o .unk := (rfl)
theorem drop_zero : vs.drop 0 = vs := (rfl)
theorem drop_succ : (v :: vs).drop (i + 1) = vs.drop i := (rfl)
theorem take_zero : vs.take 0 = [] := by simp
theorem take_succ : (v :: vs).take (i + 1) = v :: vs.take i := (rfl)
theorem take_nil : ([] : List AV).take i = [] := by simp
theorem fill_nil : fillParts env vs [] = some vs := (rfl)
theorem fill_cons {off sz : Nat} {x : Opd} {ps : List (Nat × Nat × Opd)} : fillParts env vs ((off, sz, x) :: ps) = (match (x.val env).cells with
    | some us => if us.length = sz ∧ off + sz ≤ vs.length then fillParts env (setCells vs off us) ps else none
    | none => none) := (rfl)
theorem xun_not {b : Bool} : xun .not (.bool b) Kq = Kq (.bool (!b)) := (rfl)
theorem xun_neg {k : IntKind} {a : Int} : xun .neg (.int k a) Kq = Kq (.int k (k.wrap (0 - a))) := (rfl)
theorem xbin_add {k : IntKind} {a b : Int} : xbin .add k a b Kq = Kq (.int k (k.wrap (a + b))) := (rfl)
theorem xbin_sub {k : IntKind} {a b : Int} : xbin .sub k a b Kq = Kq (.int k (k.wrap (a - b))) := (rfl)
theorem xbin_mul {k : IntKind} {a b : Int} : xbin .mul k a b Kq = Kq (.int k (k.wrap (a * b))) := (rfl)
theorem xbin_eql {k : IntKind} {a b : Int} : xbin .eql k a b Kq = Kq (.bool (decide (a = b))) := (rfl)
theorem xbin_neq {k : IntKind} {a b : Int} : xbin .neq k a b Kq = Kq (.bool (!decide (a = b))) := (rfl)
theorem xbin_lss {k : IntKind} {a b : Int} : xbin .lss k a b Kq = Kq (.bool (decide (a < b))) := (rfl)
theorem xbin_leq {k : IntKind} {a b : Int} : xbin .leq k a b Kq = Kq (.bool (decide (a ≤ b))) := (rfl)
theorem xbin_gtr {k : IntKind} {a b : Int} : xbin .gtr k a b Kq = Kq (.bool (decide (b < a))) := (rfl)
theorem xbin_geq {k : IntKind} {a b : Int} : xbin .geq k a b Kq = Kq (.bool (decide (b ≤ a))) := (rfl)
theorem xbin_quo {k : IntKind} {a b : Int} : xbin .quo k a b Kq = (b ≠ 0 ∧ Kq (.int k (k.wrap (a.tdiv b)))) := (rfl)
theorem xbin_rem {k : IntKind} {a b : Int} : xbin .rem k a b Kq = (b ≠ 0 ∧ Kq (.int k (a.tmod b))) := (rfl)
end
end Go.Proofs.Ytholbkojdcdokab
