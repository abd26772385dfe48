/- The steps of the machine with trees as equations, none of them told to the kernel as a mere unfolding. No program is named here. -/
import Derived.Test.YthbefahhpikcaaaZM4
namespace Go.Proofs.Ythbefahhpikcaaa
set_option linter.all false
open Go.RowKit

section
variable {P : Program} {env : List AV} {H H' : Heap} {n m : Nat} {K : AV → Heap → Nat → Prop} {Ks : List AV → Heap → Nat → Prop} {Kl : List AV → Heap → Nat → Prop} {Kd : DK} {Kq : AV → Prop} {v w : AV} {vs ws as : List AV} {i k o : Nat} {os : List LOper} {d : Option Nat} {hs : List Heap} {ls : List (Nat × List Nat × Option Root)} {fs : Fresh} {Q : Post}

theorem xopE_mv {x : Opd} : xop P env H n K (.mv x) = (K (x.val env) H n) := (rfl)
theorem xopE_box {e : TypeId} {x : Opd} : xop P env H n K (.box e x) = (match (x.val env).cells with
      | some cs => K (.ptr n [] 0) ((n, some ⟨e, cs⟩) :: H) (n + 1)
      | none => False) := (rfl)
theorem xopE_fresh {e : TypeId} {z : List AV} : xop P env H n K (.fresh e z) = (K (.ptr n [] 0) ((n, some ⟨e, z⟩) :: H) (n + 1)) := (rfl)
theorem xopE_bld {z : List AV} {ps : List (Nat × Nat × Opd)} : xop P env H n K (.bld z ps) = (match fillParts env z ps with
      | some cs => K (.agg cs) H n
      | none => False) := (rfl)
theorem xopE_bsl {e : TypeId} {sz : Nat} {m : Nat} {z : List AV} {ps : List (Nat × Nat × Opd)} : xop P env H n K (.bsl e sz m z ps) = (match fillParts env (repeatCells z m) ps with
      | some cs => K (.sref n [] 0 m sz) ((n, some ⟨e, cs⟩) :: H) (n + 1)
      | none => False) := (rfl)
theorem xopE_load {ag : Bool} {m : Nat} {a : Opd} : xop P env H n K (.load ag m a) = (match a.val env with
      | .ptr r π o => match H.get r π with
        | some t => o + m ≤ t.cs.length ∧ (ag = false → m = 1) ∧ K (pickCells ag (refer r π 0 t.cs) o m) H n
        | none => False
      | .bptr cs o => o + m ≤ cs.length ∧ (ag = false → m = 1) ∧ K (pickCells ag cs o m) H n
      | _ => False) := (rfl)
theorem xopE_store {m : Nat} {a : Opd} {x : Opd} : xop P env H n K (.store m a x) = (match a.val env, (x.val env).cells with
      | .ptr r π o, some vs => match H.get r π with
        | some t => vs.length = m ∧ o + m ≤ t.cs.length ∧ K .und (H.put r π (setCells t.cs o vs)) n
        | none => False
      | _, _ => False) := (rfl)
theorem xopE_bin {op : BinOp} {x : Opd} {y : Opd} : xop P env H n K (.bin op x y) = (match x.val env, y.val env with
      | .int k a, .int k' b => k = k' ∧ xbin op k a b fun v => K v H n
      | _, _ => False) := (rfl)
theorem xopE_binb {ng : Bool} {x : Opd} {y : Opd} : xop P env H n K (.binb ng x y) = (match x.val env, y.val env with
      | .bool a, .bool b => K (.bool (match ng with | true => !(a == b) | false => a == b)) H n
      | _, _ => False) := (rfl)
theorem xopE_un {op : UnOp} {x : Opd} : xop P env H n K (.un op x) = (xun op (x.val env) fun v => K v H n) := (rfl)
theorem xopE_mk {e : TypeId} {sz : Nat} {bytes : Nat} {z : List AV} {l : Opd} : xop P env H n K (.mk e sz bytes z l) = (match l.val env with
      | .int .i64 m => (0 ≤ m ∧ m * bytes ≤ 2 ^ 47 ∧ m ≤ 2 ^ 47) ∧ K (.sref n [] 0 m.toNat sz) ((n, some ⟨e, repeatCells z m.toNat⟩) :: H) (n + 1)
      | _ => False) := (rfl)
theorem xopE_slc {sz : Nat} {x : Opd} {lo : Option Opd} {hi : Option Opd} : xop P env H n K (.slc sz x lo hi) = (match boundOf env lo 0 with
      | some l => match x.val env with
        | .nil => match boundOf env hi 0 with
          | some h => (l = 0 ∧ h = 0) ∧ K .nil H n
          | none => False
        | .sref r π o m sz' => match boundOf env hi m with
          | some h => (sz' = sz ∧ 0 ≤ l ∧ l ≤ h ∧ h ≤ m) ∧ K (.sref r π (o + l.toNat * sz) (h.toNat - l.toNat) sz) H n
          | none => False
        | .bor m cs => match boundOf env hi m with
          | some h => (cs.length = m * sz ∧ 0 ≤ l ∧ l ≤ h ∧ h ≤ m) ∧ K (.bor (h.toNat - l.toNat) ((cs.drop (l.toNat * sz)).take ((h.toNat - l.toNat) * sz))) H n
          | none => False
        | _ => False
      | none => False) := (rfl)
theorem xopE_cvt {k : IntKind} {x : Opd} : xop P env H n K (.cvt k x) = (match x.val env with
      | .int _ z => K (.int k (k.wrap z)) H n
      | _ => False) := (rfl)
theorem xopE_fadr {off : Nat} {x : Opd} : xop P env H n K (.fadr off x) = (match x.val env with
      | .ptr r π o => K (.ptr r π (o + off)) H n
      | .bptr cs o => K (.bptr cs (o + off)) H n
      | _ => False) := (rfl)
theorem xopE_fld {ag : Bool} {off : Nat} {m : Nat} {x : Opd} : xop P env H n K (.fld ag off m x) = (match x.val env with
      | .agg cs => off + m ≤ cs.length ∧ (ag = false → m = 1) ∧ K (pickCells ag cs off m) H n
      | _ => False) := (rfl)
theorem xopE_iadr {sz : Nat} {x : Opd} {i : Opd} : xop P env H n K (.iadr sz x i) = (match x.val env, i.val env with
      | .sref r π o m sz', .int _ k => (sz' = sz ∧ 0 ≤ k ∧ k < m) ∧ K (.ptr r π (o + k.toNat * sz)) H n
      | .bor m cs, .int _ k => (0 ≤ k ∧ k < m ∧ k.toNat * sz < cs.length) ∧ K (.bptr cs (k.toNat * sz)) H n
      | _, _ => False) := (rfl)
theorem xopE_ext {x : Opd} {i : Nat} : xop P env H n K (.ext x i) = (match x.val env with
      | .tup vs => i < vs.length ∧ K (vs.getD i .unk) H n
      | _ => False) := (rfl)
theorem xopE_len {x : Opd} : xop P env H n K (.len x) = (match x.val env with
      | .sref _ _ _ m _ => K (.int .i64 m) H n
      | .bor m _ => K (.int .i64 m) H n
      | .nil => K (.int .i64 0) H n
      | .emp => K (.int .i64 0) H n
      | _ => False) := (rfl)
theorem xopE_app {e : TypeId} {sz : Nat} {bytes : Nat} {_z : List AV} {s : Opd} {x : Opd} : xop P env H n K (.app e sz bytes _z s x) = (match readPart H sz (x.val env) with
      | some (m, ds) => match s.val env with
        | .nil => (m * bytes ≤ 2 ^ 47 ∧ m ≤ 2 ^ 47) ∧ K (.sref n [] 0 m sz) ((n, some ⟨e, ds⟩) :: H) (n + 1)
        | .emp => (m * bytes ≤ 2 ^ 47 ∧ m ≤ 2 ^ 47) ∧ K (.sref n [] 0 m sz) ((n, some ⟨e, ds⟩) :: H) (n + 1)
        | v => match ownPart H e sz v with
          | some (l, cs, r, π) => ((l + m) * bytes ≤ 2 ^ 47 ∧ l + m ≤ 2 ^ 47) ∧ K (.sref n [] 0 (l + m) sz) ((n, some ⟨e, cs ++ ds⟩) :: H.kill r π) (n + 1)
          | none => False
      | none => False) := (rfl)
theorem xopE_sh {left : Bool} {x : Opd} {y : Opd} : xop P env H n K (.sh left x y) = (match x.val env, y.val env with
      | .int k a, .int _ b => 0 ≤ b ∧ K (.int k (match left with | true => k.wrap (a * 2 ^ (min b.toNat k.bits)) | false => a.fdiv (2 ^ (min b.toNat k.bits)))) H n
      | _, _ => False) := (rfl)
theorem xopE_beq {ng : Bool} {offs : List (Nat × Bool)} {x : Opd} {y : Opd} : xop P env H n K (.beq ng offs x y) = (match x.val env, y.val env with
      | .agg xs, .agg ys => match eqAt xs ys offs with
        | some r => K (.bool (match ng with | true => !r | false => r)) H n
        | none => False
      | _, _ => False) := (rfl)
theorem xopE_nck {x : Opd} : xop P env H n K (.nck x) = (match x.val env with
      | .ptr r π o => K (.ptr r π o) H n
      | .bptr cs o => K (.bptr cs o) H n
      | _ => False) := (rfl)
theorem xopE_mx {most : Bool} {x : Opd} {y : Opd} : xop P env H n K (.mx most x y) = (match x.val env, y.val env with
      | .int k a, .int k' b => k = k' ∧ K (.int k (match most with | true => max a b | false => min a b)) H n
      | _, _ => False) := (rfl)
theorem xopE_cpy {sz : Nat} {d : Opd} {s : Opd} : xop P env H n K (.cpy sz d s) = (match readPart H sz (s.val env) with
      | some (m2, ds) => match d.val env with
        | .sref r π o m sz' => match H.get r π with
          | some t => (sz' = sz ∧ o + m * sz ≤ t.cs.length) ∧ K (.int .i64 (min m m2 : Nat)) (H.put r π (setCells t.cs o (ds.take (min m m2 * sz)))) n
          | none => False
        | .nil => K (.int .i64 0) H n
        | .emp => K (.int .i64 0) H n
        | _ => False
      | none => False) := (rfl)
theorem xops_mv {a0 : Opd} : xops P Ks (⟨d, .mv a0, none⟩ :: os) env H n = xop P env H n (fun v H' n' => xops P Ks os (put env d v) H' n') (.mv a0) := (rfl)
theorem xds_mv {a0 : Opd} : xds P Kd (⟨d, .mv a0, none⟩ :: os) hs ls env H n fs = xop P env H n (fun v _ _ => xds P Kd os hs ls (put env d v) H n fs) (.mv a0) := by
  have h : same H none hs = True := eq_true (same_of fun _ _ => trivial)
  show (same H none hs ∧ _) = _
  rw [h, true_and]; rfl
theorem xops_box {a0 : TypeId} {a1 : Opd} : xops P Ks (⟨d, .box a0 a1, none⟩ :: os) env H n = xop P env H n (fun v H' n' => xops P Ks os (put env d v) H' n') (.box a0 a1) := (rfl)
theorem xds_box {a0 : TypeId} {a1 : Opd} : xds P Kd (⟨d, .box a0 a1, none⟩ :: os) hs ls env H n fs = xop P env H n (fun v H' n' => kept H' ls ∧ xds P Kd os (H' :: hs) ls (put env d v) H' n' fs) (.box a0 a1) := (rfl)
theorem xops_fresh {a0 : TypeId} {a1 : List AV} : xops P Ks (⟨d, .fresh a0 a1, none⟩ :: os) env H n = xop P env H n (fun v H' n' => xops P Ks os (put env d v) H' n') (.fresh a0 a1) := (rfl)
theorem xops_bld {a0 : List AV} {a1 : List (Nat × Nat × Opd)} : xops P Ks (⟨d, .bld a0 a1, none⟩ :: os) env H n = xop P env H n (fun v H' n' => xops P Ks os (put env d v) H' n') (.bld a0 a1) := (rfl)
theorem xds_bld {a0 : List AV} {a1 : List (Nat × Nat × Opd)} : xds P Kd (⟨d, .bld a0 a1, none⟩ :: os) hs ls env H n fs = xop P env H n (fun v _ _ => xds P Kd os hs ls (put env d v) H n fs) (.bld a0 a1) := by
  have h : same H none hs = True := eq_true (same_of fun _ _ => trivial)
  show (same H none hs ∧ _) = _
  rw [h, true_and]; rfl
theorem xops_bsl {a0 : TypeId} {a1 : Nat} {a2 : Nat} {a3 : List AV} {a4 : List (Nat × Nat × Opd)} : xops P Ks (⟨d, .bsl a0 a1 a2 a3 a4, none⟩ :: os) env H n = xop P env H n (fun v H' n' => xops P Ks os (put env d v) H' n') (.bsl a0 a1 a2 a3 a4) := (rfl)
theorem xops_load {a0 : Bool} {a1 : Nat} {a2 : Opd} : xops P Ks (⟨d, .load a0 a1 a2, none⟩ :: os) env H n = xop P env H n (fun v H' n' => xops P Ks os (put env d v) H' n') (.load a0 a1 a2) := (rfl)
theorem xops_store {a0 : Nat} {a1 : Opd} {a2 : Opd} : xops P Ks (⟨d, .store a0 a1 a2, none⟩ :: os) env H n = xop P env H n (fun v H' n' => xops P Ks os (put env d v) H' n') (.store a0 a1 a2) := (rfl)
theorem xds_store {a0 : Nat} {a1 : Opd} {a2 : Opd} : xds P Kd (⟨d, .store a0 a1 a2, none⟩ :: os) hs ls env H n fs = xop P env H n (fun v H' n' => kept H' ls ∧ xds P Kd os (H' :: hs) ls (put env d v) H' n' fs) (.store a0 a1 a2) := (rfl)
theorem xops_bin {a0 : BinOp} {a1 : Opd} {a2 : Opd} : xops P Ks (⟨d, .bin a0 a1 a2, none⟩ :: os) env H n = xop P env H n (fun v H' n' => xops P Ks os (put env d v) H' n') (.bin a0 a1 a2) := (rfl)
theorem xds_bin {a0 : BinOp} {a1 : Opd} {a2 : Opd} : xds P Kd (⟨d, .bin a0 a1 a2, none⟩ :: os) hs ls env H n fs = xop P env H n (fun v _ _ => xds P Kd os hs ls (put env d v) H n fs) (.bin a0 a1 a2) := by
  have h : same H none hs = True := eq_true (same_of fun _ _ => trivial)
  show (same H none hs ∧ _) = _
  rw [h, true_and]; rfl
theorem xops_binb {a0 : Bool} {a1 : Opd} {a2 : Opd} : xops P Ks (⟨d, .binb a0 a1 a2, none⟩ :: os) env H n = xop P env H n (fun v H' n' => xops P Ks os (put env d v) H' n') (.binb a0 a1 a2) := (rfl)
theorem xds_binb {a0 : Bool} {a1 : Opd} {a2 : Opd} : xds P Kd (⟨d, .binb a0 a1 a2, none⟩ :: os) hs ls env H n fs = xop P env H n (fun v _ _ => xds P Kd os hs ls (put env d v) H n fs) (.binb a0 a1 a2) := by
  have h : same H none hs = True := eq_true (same_of fun _ _ => trivial)
  show (same H none hs ∧ _) = _
  rw [h, true_and]; rfl
theorem xops_un {a0 : UnOp} {a1 : Opd} : xops P Ks (⟨d, .un a0 a1, none⟩ :: os) env H n = xop P env H n (fun v H' n' => xops P Ks os (put env d v) H' n') (.un a0 a1) := (rfl)
theorem xds_un {a0 : UnOp} {a1 : Opd} : xds P Kd (⟨d, .un a0 a1, none⟩ :: os) hs ls env H n fs = xop P env H n (fun v _ _ => xds P Kd os hs ls (put env d v) H n fs) (.un a0 a1) := by
  have h : same H none hs = True := eq_true (same_of fun _ _ => trivial)
  show (same H none hs ∧ _) = _
  rw [h, true_and]; rfl
theorem xops_mk {a0 : TypeId} {a1 : Nat} {a2 : Nat} {a3 : List AV} {a4 : Opd} : xops P Ks (⟨d, .mk a0 a1 a2 a3 a4, none⟩ :: os) env H n = xop P env H n (fun v H' n' => xops P Ks os (put env d v) H' n') (.mk a0 a1 a2 a3 a4) := (rfl)
theorem xds_mk {a0 : TypeId} {a1 : Nat} {a2 : Nat} {a3 : List AV} {a4 : Opd} : xds P Kd (⟨d, .mk a0 a1 a2 a3 a4, none⟩ :: os) hs ls env H n fs = xop P env H n (fun v H' n' => kept H' ls ∧ xds P Kd os (H' :: hs) ls (put env d v) H' n' fs) (.mk a0 a1 a2 a3 a4) := (rfl)
theorem xops_slc {a0 : Nat} {a1 : Opd} {a2 : Option Opd} {a3 : Option Opd} : xops P Ks (⟨d, .slc a0 a1 a2 a3, none⟩ :: os) env H n = xop P env H n (fun v H' n' => xops P Ks os (put env d v) H' n') (.slc a0 a1 a2 a3) := (rfl)
theorem xds_slc {a0 : Nat} {a1 : Opd} {a2 : Option Opd} {a3 : Option Opd} : xds P Kd (⟨d, .slc a0 a1 a2 a3, none⟩ :: os) hs ls env H n fs = xop P env H n (fun v _ _ => xds P Kd os hs ls (put env d v) H n fs) (.slc a0 a1 a2 a3) := by
  have h : same H none hs = True := eq_true (same_of fun _ _ => trivial)
  show (same H none hs ∧ _) = _
  rw [h, true_and]; rfl
theorem xops_fadr {a0 : Nat} {a1 : Opd} : xops P Ks (⟨d, .fadr a0 a1, none⟩ :: os) env H n = xop P env H n (fun v H' n' => xops P Ks os (put env d v) H' n') (.fadr a0 a1) := (rfl)
theorem xds_fadr {a0 : Nat} {a1 : Opd} : xds P Kd (⟨d, .fadr a0 a1, none⟩ :: os) hs ls env H n fs = xop P env H n (fun v _ _ => xds P Kd os hs ls (put env d v) H n fs) (.fadr a0 a1) := by
  have h : same H none hs = True := eq_true (same_of fun _ _ => trivial)
  show (same H none hs ∧ _) = _
  rw [h, true_and]; rfl
theorem xops_fld {a0 : Bool} {a1 : Nat} {a2 : Nat} {a3 : Opd} : xops P Ks (⟨d, .fld a0 a1 a2 a3, none⟩ :: os) env H n = xop P env H n (fun v H' n' => xops P Ks os (put env d v) H' n') (.fld a0 a1 a2 a3) := (rfl)
theorem xds_fld {a0 : Bool} {a1 : Nat} {a2 : Nat} {a3 : Opd} : xds P Kd (⟨d, .fld a0 a1 a2 a3, none⟩ :: os) hs ls env H n fs = xop P env H n (fun v _ _ => xds P Kd os hs ls (put env d v) H n fs) (.fld a0 a1 a2 a3) := by
  have h : same H none hs = True := eq_true (same_of fun _ _ => trivial)
  show (same H none hs ∧ _) = _
  rw [h, true_and]; rfl
theorem xops_iadr {a0 : Nat} {a1 : Opd} {a2 : Opd} : xops P Ks (⟨d, .iadr a0 a1 a2, none⟩ :: os) env H n = xop P env H n (fun v H' n' => xops P Ks os (put env d v) H' n') (.iadr a0 a1 a2) := (rfl)
theorem xds_iadr {a0 : Nat} {a1 : Opd} {a2 : Opd} : xds P Kd (⟨d, .iadr a0 a1 a2, none⟩ :: os) hs ls env H n fs = xop P env H n (fun v _ _ => xds P Kd os hs ls (put env d v) H n fs) (.iadr a0 a1 a2) := by
  have h : same H none hs = True := eq_true (same_of fun _ _ => trivial)
  show (same H none hs ∧ _) = _
  rw [h, true_and]; rfl
theorem xops_ext {a0 : Opd} {a1 : Nat} : xops P Ks (⟨d, .ext a0 a1, none⟩ :: os) env H n = xop P env H n (fun v H' n' => xops P Ks os (put env d v) H' n') (.ext a0 a1) := (rfl)
theorem xds_ext {a0 : Opd} {a1 : Nat} : xds P Kd (⟨d, .ext a0 a1, none⟩ :: os) hs ls env H n fs = xop P env H n (fun v _ _ => xds P Kd os hs ls (put env d v) H n fs) (.ext a0 a1) := by
  have h : same H none hs = True := eq_true (same_of fun _ _ => trivial)
  show (same H none hs ∧ _) = _
  rw [h, true_and]; rfl
theorem xops_len {a0 : Opd} : xops P Ks (⟨d, .len a0, none⟩ :: os) env H n = xop P env H n (fun v H' n' => xops P Ks os (put env d v) H' n') (.len a0) := (rfl)
theorem xds_len {a0 : Opd} : xds P Kd (⟨d, .len a0, none⟩ :: os) hs ls env H n fs = xop P env H n (fun v _ _ => xds P Kd os hs ls (put env d v) H n fs) (.len a0) := by
  have h : same H none hs = True := eq_true (same_of fun _ _ => trivial)
  show (same H none hs ∧ _) = _
  rw [h, true_and]; rfl
theorem xops_app {a0 : TypeId} {a1 : Nat} {a2 : Nat} {a3 : List AV} {a4 : Opd} {a5 : Opd} : xops P Ks (⟨d, .app a0 a1 a2 a3 a4 a5, none⟩ :: os) env H n = xop P env H n (fun v H' n' => xops P Ks os (put env d v) H' n') (.app a0 a1 a2 a3 a4 a5) := (rfl)
theorem xds_app {a0 : TypeId} {a1 : Nat} {a2 : Nat} {a3 : List AV} {a4 : Opd} {a5 : Opd} : xds P Kd (⟨d, .app a0 a1 a2 a3 a4 a5, none⟩ :: os) hs ls env H n fs = xop P env H n (fun v H' n' => kept H' ls ∧ xds P Kd os (H' :: hs) ls (put env d v) H' n' fs) (.app a0 a1 a2 a3 a4 a5) := (rfl)
theorem xops_cpy {a0 : Nat} {a1 : Opd} {a2 : Opd} : xops P Ks (⟨d, .cpy a0 a1 a2, none⟩ :: os) env H n = xop P env H n (fun v H' n' => xops P Ks os (put env d v) H' n') (.cpy a0 a1 a2) := (rfl)
theorem xds_cpy {a0 : Nat} {a1 : Opd} {a2 : Opd} : xds P Kd (⟨d, .cpy a0 a1 a2, none⟩ :: os) hs ls env H n fs = xop P env H n (fun v H' n' => kept H' ls ∧ xds P Kd os (H' :: hs) ls (put env d v) H' n' fs) (.cpy a0 a1 a2) := (rfl)
theorem xops_cvt {a0 : IntKind} {a1 : Opd} : xops P Ks (⟨d, .cvt a0 a1, none⟩ :: os) env H n = xop P env H n (fun v H' n' => xops P Ks os (put env d v) H' n') (.cvt a0 a1) := (rfl)
theorem xds_cvt {a0 : IntKind} {a1 : Opd} : xds P Kd (⟨d, .cvt a0 a1, none⟩ :: os) hs ls env H n fs = xop P env H n (fun v _ _ => xds P Kd os hs ls (put env d v) H n fs) (.cvt a0 a1) := by
  have h : same H none hs = True := eq_true (same_of fun _ _ => trivial)
  show (same H none hs ∧ _) = _
  rw [h, true_and]; rfl
theorem xops_sh {a0 : Bool} {a1 : Opd} {a2 : Opd} : xops P Ks (⟨d, .sh a0 a1 a2, none⟩ :: os) env H n = xop P env H n (fun v H' n' => xops P Ks os (put env d v) H' n') (.sh a0 a1 a2) := (rfl)
theorem xds_sh {a0 : Bool} {a1 : Opd} {a2 : Opd} : xds P Kd (⟨d, .sh a0 a1 a2, none⟩ :: os) hs ls env H n fs = xop P env H n (fun v _ _ => xds P Kd os hs ls (put env d v) H n fs) (.sh a0 a1 a2) := by
  have h : same H none hs = True := eq_true (same_of fun _ _ => trivial)
  show (same H none hs ∧ _) = _
  rw [h, true_and]; rfl
theorem xops_beq {a0 : Bool} {a1 : List (Nat × Bool)} {a2 : Opd} {a3 : Opd} : xops P Ks (⟨d, .beq a0 a1 a2 a3, none⟩ :: os) env H n = xop P env H n (fun v H' n' => xops P Ks os (put env d v) H' n') (.beq a0 a1 a2 a3) := (rfl)
theorem xds_beq {a0 : Bool} {a1 : List (Nat × Bool)} {a2 : Opd} {a3 : Opd} : xds P Kd (⟨d, .beq a0 a1 a2 a3, none⟩ :: os) hs ls env H n fs = xop P env H n (fun v _ _ => xds P Kd os hs ls (put env d v) H n fs) (.beq a0 a1 a2 a3) := by
  have h : same H none hs = True := eq_true (same_of fun _ _ => trivial)
  show (same H none hs ∧ _) = _
  rw [h, true_and]; rfl
theorem xops_nck {a0 : Opd} : xops P Ks (⟨d, .nck a0, none⟩ :: os) env H n = xop P env H n (fun v H' n' => xops P Ks os (put env d v) H' n') (.nck a0) := (rfl)
theorem xds_nck {a0 : Opd} : xds P Kd (⟨d, .nck a0, none⟩ :: os) hs ls env H n fs = xop P env H n (fun v _ _ => xds P Kd os hs ls (put env d v) H n fs) (.nck a0) := by
  have h : same H none hs = True := eq_true (same_of fun _ _ => trivial)
  show (same H none hs ∧ _) = _
  rw [h, true_and]; rfl
theorem xops_mx {a0 : Bool} {a1 : Opd} {a2 : Opd} : xops P Ks (⟨d, .mx a0 a1 a2, none⟩ :: os) env H n = xop P env H n (fun v H' n' => xops P Ks os (put env d v) H' n') (.mx a0 a1 a2) := (rfl)
theorem xds_mx {a0 : Bool} {a1 : Opd} {a2 : Opd} : xds P Kd (⟨d, .mx a0 a1 a2, none⟩ :: os) hs ls env H n fs = xop P env H n (fun v _ _ => xds P Kd os hs ls (put env d v) H n fs) (.mx a0 a1 a2) := by
  have h : same H none hs = True := eq_true (same_of fun _ _ => trivial)
  show (same H none hs ∧ _) = _
  rw [h, true_and]; rfl

def seenV : AV → Option (Nat × List Nat)
  | .ptr r π _ => some (r, π)
  | _ => none
theorem seenV_ptr {r : Nat} {π : List Nat} : seenV (.ptr r π o) = some (r, π) := (rfl)
theorem seenV_bptr : seenV (.bptr vs o) = none := (rfl)
theorem seen_load {ag : Bool} {a : Opd} : seen env (.load ag m a) = seenV (a.val env) := by simp only [seen]; cases a.val env <;> rfl
theorem xds_load {ag : Bool} {a : Opd} : xds P Kd (⟨d, .load ag m a, none⟩ :: os) hs ls env H n fs = (same H (seenV (a.val env)) hs ∧ xop P env H n (fun v _ _ => xds P Kd os hs (noted H (seenV (a.val env)) ls) (put env d v) H n fs) (.load ag m a)) := by
  rw [← seen_load (ag := ag) (m := m)]; rfl
theorem same_none : same H none hs = True := eq_true (same_of fun _ _ => trivial)
theorem same_nil {q : Option (Nat × List Nat)} : same H q [] = True := (rfl)
theorem same_cons {r : Nat} {π : List Nat} : same H (some (r, π)) (H' :: hs) = (H'.get r π = H.get r π ∧ same H (some (r, π)) hs) := (rfl)
theorem noted_none : noted H none ls = ls := (rfl)
theorem noted_some {r : Nat} {π : List Nat} : noted H (some (r, π)) ls = (r, π, H.get r π) :: ls := (rfl)
theorem kept_nil : kept H [] = True := (rfl)
theorem kept_cons {r : Nat} {π : List Nat} {t : Option Root} : kept H ((r, π, t) :: ls) = (H.get r π = t ∧ kept H ls) := (rfl)
theorem xds_bsl {e : TypeId} {sz : Nat} {z : List AV} {ps : List (Nat × Nat × Opd)} : xds P Kd (⟨d, .bsl e sz m z ps, none⟩ :: os) hs ls env H n fs = (match fillParts env (repeatCells z m) ps with
    | some cs => xds P Kd os hs ls (put env d (frozenOf m cs)) H n fs
    | none => False) := (rfl)
theorem frozenOf_z : frozenOf 0 vs = .emp := (rfl)
theorem frozenOf_p (h : ¬ m = 0) : frozenOf m vs = .bor m vs := by cases m with
  | zero => exact absurd rfl h
  | succ m => rfl
theorem xds_fresh {e : TypeId} {z : List AV} {t : Nat} : xds P Kd (⟨some t, .fresh e z, none⟩ :: os) hs ls env H n none = xds P Kd os hs ls (put env (some t) .unk) H n (some (t, e, z)) := (rfl)
theorem xds_nil : xds P Kd [] hs ls env H n fs = Kd env H n fs := (rfl)
theorem ended_none {tail : List LOper} : Ended P tail Q env H n none = xops P (Q .normal) tail env H n := (rfl)
theorem ended_some {tail : List LOper} {t : Nat} {e : TypeId} {z : List AV} : Ended P tail Q env H n (some (t, e, z)) = xops P (Q .normal) tail (put env (some t) (.ptr n [] 0)) ((n, some ⟨e, z⟩) :: H) (n + 1) := (rfl)
theorem xops_nil : xops P Ks [] env H n = Ks env H n := (rfl)
theorem val_t : Opd.val env (.t i) = env.getD i .unk := (rfl)
theorem val_c : Opd.val env (.c v) = v := (rfl)
theorem putv_some : put env (some i) v = env.set i v := (rfl)
theorem putv_none : put env none v = env := (rfl)
theorem set_zero : (v :: vs).set 0 w = w :: vs := (rfl)
theorem set_succ : (v :: vs).set (i + 1) w = v :: vs.set i w := (rfl)
theorem getD_zero : (v :: vs).getD 0 w = v := (rfl)
theorem getD_succ : (v :: vs).getD (i + 1) w = vs.getD i w := (rfl)
theorem get_root {r : Nat} : Heap.get H r [] = H.get1 r := (rfl)
theorem get_way {r : Nat} {π : List Nat} : Heap.get H r (i :: π) = (match Heap.get H r π with
    | some t => (t.cs.getD i .unk).node
    | none => none) := (rfl)
theorem get1_cons {r : Option Root} : Heap.get1 ((k, r) :: H) i = if k = i then r else Heap.get1 H i := (rfl)
theorem get1_nil : Heap.get1 [] i = none := (rfl)
theorem node_own {e : TypeId} {sz : Nat} : AV.node (.own e sz m vs) = some ⟨e, vs⟩ := (rfl)
theorem put_root {r : Nat} : Heap.put H r [] vs = (match H.get1 r with
    | some t => (r, some ⟨t.e, vs⟩) :: H
    | none => H) := (rfl)
theorem put_way {r : Nat} {π : List Nat} : Heap.put H r (i :: π) vs = (match H.get r π with
    | some t => match t.cs.getD i .unk with
      | .own e sz m _ => Heap.put H r π (t.cs.set i (.own e sz m vs))
      | _ => H
    | none => H) := (rfl)
theorem kill_root {r : Nat} : Heap.kill H r [] = (r, none) :: H := (rfl)
theorem kill_way {r : Nat} {π : List Nat} : Heap.kill H r (i :: π) = (match H.get r π with
    | some t => Heap.put H r π (t.cs.set i .unk)
    | none => H) := (rfl)
theorem setCells_nil : setCells vs o [] = vs := (rfl)
theorem setCells_cons : setCells vs o (v :: ws) = setCells (vs.set o v) (o + 1) ws := (rfl)
theorem cells_nil : AV.cells .nil = some [.nil] := (rfl)
theorem cells_emp : AV.cells .emp = some [.emp] := (rfl)
theorem cells_bool {b : Bool} : AV.cells (.bool b) = some [.bool b] := (rfl)
theorem cells_int {k : IntKind} {z : Int} : AV.cells (.int k z) = some [.int k z] := (rfl)
theorem cells_ptr {r : Nat} {π : List Nat} : AV.cells (.ptr r π o) = some [.ptr r π o] := (rfl)
theorem cells_sref {r m s : Nat} {π : List Nat} : AV.cells (.sref r π o m s) = some [.sref r π o m s] := (rfl)
theorem cells_bor {m : Nat} : AV.cells (.bor m vs) = some [.bor m vs] := (rfl)
theorem cells_bptr {o : Nat} : AV.cells (.bptr vs o) = some [.bptr vs o] := (rfl)
theorem cells_agg : AV.cells (.agg vs) = some vs := (rfl)
theorem at_own {e : TypeId} {sz r : Nat} {π : List Nat} : AV.at r π i (.own e sz m vs) = .sref r (i :: π) 0 m sz := (rfl)
theorem at_unk {r : Nat} {π : List Nat} : AV.at r π i .unk = .unk := (rfl)
theorem at_nil {r : Nat} {π : List Nat} : AV.at r π i .nil = .nil := (rfl)
theorem at_emp {r : Nat} {π : List Nat} : AV.at r π i .emp = .emp := (rfl)
theorem at_bool {r : Nat} {π : List Nat} {b : Bool} : AV.at r π i (.bool b) = .bool b := (rfl)
theorem at_int {r : Nat} {π : List Nat} {kd : IntKind} {z : Int} : AV.at r π i (.int kd z) = .int kd z := (rfl)
theorem at_bor {r : Nat} {π : List Nat} : AV.at r π i (.bor m vs) = .bor m vs := (rfl)
theorem at_sref {r r2 s2 : Nat} {π π2 : List Nat} : AV.at r π i (.sref r2 π2 o m s2) = .sref r2 π2 o m s2 := (rfl)
theorem at_ptr {r r2 : Nat} {π π2 : List Nat} : AV.at r π i (.ptr r2 π2 o) = .ptr r2 π2 o := (rfl)
theorem refer_nil {r : Nat} {π : List Nat} : refer r π i [] = [] := (rfl)
theorem refer_cons {r : Nat} {π : List Nat} : refer r π i (v :: vs) = v.at r π i :: refer r π (i + 1) vs := (rfl)
theorem pick_f {r : Nat} {π : List Nat} : pickCells false (refer r π 0 vs) o m = (vs.getD o .unk).at r π o := by
  show (refer r π 0 vs).getD o .unk = _
  rw [refer_getD, Nat.zero_add]
theorem pick_t {r : Nat} {π : List Nat} : pickCells true (refer r π 0 vs) o m = .agg (refer r π o ((vs.drop o).take m)) := by
  show AV.agg (((refer r π 0 vs).drop o).take m) = _
  rw [refer_drop, refer_take, Nat.zero_add]
theorem pickCells_t : pickCells true vs o i = .agg ((vs.drop o).take i) := (rfl)
theorem pickCells_f : pickCells false vs o i = vs.getD o .unk := (rfl)
theorem drop_zero : vs.drop 0 = vs := (rfl)
theorem drop_succ : (v :: vs).drop (i + 1) = vs.drop i := (rfl)
theorem take_zero : vs.take 0 = [] := by simp
theorem take_succ : (v :: vs).take (i + 1) = v :: vs.take i := (rfl)
theorem take_nil : ([] : List AV).take i = [] := by simp
theorem fill_nil : fillParts env vs [] = some vs := (rfl)
theorem fill_cons {off sz : Nat} {x : Opd} {ps : List (Nat × Nat × Opd)} : fillParts env vs ((off, sz, x) :: ps) = (match (x.val env).cells with
    | some us => if us.length = sz ∧ off + sz ≤ vs.length then fillParts env (setCells vs off us) ps else none
    | none => none) := (rfl)
theorem rep_zero : repeatCells vs 0 = [] := (rfl)
theorem rep_succ : repeatCells vs (m + 1) = vs ++ repeatCells vs m := (rfl)
theorem readPart_nil {sz : Nat} : readPart H sz .nil = some (0, []) := (rfl)
theorem readPart_emp {sz : Nat} : readPart H sz .emp = some (0, []) := (rfl)
theorem readPart_bor {sz m : Nat} : readPart H sz (.bor m vs) = (if vs.length = m * sz then some (m, vs) else none) := (rfl)
theorem readPart_sref {sz r m s2 : Nat} {π : List Nat} : readPart H sz (.sref r π o m s2) = (match H.get r π with
    | some t => if s2 = sz ∧ o + m * sz ≤ t.cs.length then some (m, ((refer r π 0 t.cs).drop o).take (m * sz)) else none
    | none => none) := (rfl)
theorem ownPart_sref {e : TypeId} {sz r m s2 : Nat} {π : List Nat} : ownPart H e sz (.sref r π o m s2) = (match H.get r π with
    | some t => if s2 = sz ∧ o = 0 ∧ t.e = e ∧ t.cs.length = m * sz then some (m, t.cs, r, π) else none
    | none => none) := (rfl)
theorem bound_none {d : Int} : boundOf env none d = some d := (rfl)
theorem bound_some {x : Opd} {d : Int} : boundOf env (some x) d = (match x.val env with
    | .int _ z => some z
    | _ => none) := (rfl)
theorem xun_not {b : Bool} : xun .not (.bool b) Kq = Kq (.bool (!b)) := (rfl)
theorem xun_neg {k : IntKind} {a : Int} : xun .neg (.int k a) Kq = Kq (.int k (k.wrap (0 - a))) := (rfl)
theorem eqAt_nil : eqAt vs ws [] = some true := (rfl)
theorem eqAt_int {ps : List (Nat × Bool)} : eqAt vs ws ((o, false) :: ps) = (match vs.getD o .unk, ws.getD o .unk, eqAt vs ws ps with
    | .int k a, .int k' b, some r => if k = k' then some (decide (a = b) && r) else none
    | _, _, _ => none) := by
  simp only [eqAt]
  generalize vs.getD o .unk = a
  generalize ws.getD o .unk = b
  generalize eqAt vs ws ps = c
  cases a <;> cases b <;> cases c <;> rfl
theorem eqAt_bool {ps : List (Nat × Bool)} : eqAt vs ws ((o, true) :: ps) = (match vs.getD o .unk, ws.getD o .unk, eqAt vs ws ps with
    | .bool a, .bool b, some r => some ((a == b) && r)
    | _, _, _ => none) := by
  simp only [eqAt]
  generalize vs.getD o .unk = a
  generalize ws.getD o .unk = b
  generalize eqAt vs ws ps = c
  cases a <;> cases b <;> cases c <;> rfl
theorem nameK_tup : nameK H n K (.tup vs) = nameKT H n (fun ys H' n' => K (.tup ys) H' n') vs := (rfl)
theorem nameK_agg : nameK H n K (.agg vs) = nameKL H n (fun ys H' n' => K (.agg ys) H' n') vs := (rfl)
theorem nameKA_agg : nameKA H n K (.agg vs) = nameKL H n (fun ys H' n' => K (.agg ys) H' n') vs := (rfl)
theorem nameKL_nil : nameKL H n Kl [] = Kl [] H n := (rfl)
theorem nameKL_cons : nameKL H n Kl (v :: vs) = nameK1 H n (fun y H' n' => nameKL H' n' (fun ys H2 n2 => Kl (y :: ys) H2 n2) vs) v := (rfl)
theorem nameKT_nil : nameKT H n Kl [] = Kl [] H n := (rfl)
theorem nameKT_cons : nameKT H n Kl (v :: vs) = nameKA H n (fun y H' n' => nameKT H' n' (fun ys H2 n2 => Kl (y :: ys) H2 n2) vs) v := (rfl)
theorem nameK_own {e : TypeId} {sz : Nat} : nameK H n K (.own e sz m vs) = K (.sref n [] 0 m sz) ((n, some ⟨e, vs⟩) :: H) (n + 1) := (rfl)
theorem nameKA_own {e : TypeId} {sz : Nat} : nameKA H n K (.own e sz m vs) = K (.sref n [] 0 m sz) ((n, some ⟨e, vs⟩) :: H) (n + 1) := (rfl)
theorem nameK1_own {e : TypeId} {sz : Nat} : nameK1 H n K (.own e sz m vs) = K (.sref n [] 0 m sz) ((n, some ⟨e, vs⟩) :: H) (n + 1) := (rfl)
theorem nameK_nil : nameK H n K (.nil) = K (.nil) H n := (rfl)
theorem nameKA_nil : nameKA H n K (.nil) = K (.nil) H n := (rfl)
theorem nameK1_nil : nameK1 H n K (.nil) = K (.nil) H n := (rfl)
theorem nameK_emp : nameK H n K (.emp) = K (.emp) H n := (rfl)
theorem nameKA_emp : nameKA H n K (.emp) = K (.emp) H n := (rfl)
theorem nameK1_emp : nameK1 H n K (.emp) = K (.emp) H n := (rfl)
theorem nameK_bool {b : Bool} : nameK H n K (.bool b) = K (.bool b) H n := (rfl)
theorem nameKA_bool {b : Bool} : nameKA H n K (.bool b) = K (.bool b) H n := (rfl)
theorem nameK1_bool {b : Bool} : nameK1 H n K (.bool b) = K (.bool b) H n := (rfl)
theorem nameK_int {kd : IntKind} {z : Int} : nameK H n K (.int kd z) = K (.int kd z) H n := (rfl)
theorem nameKA_int {kd : IntKind} {z : Int} : nameKA H n K (.int kd z) = K (.int kd z) H n := (rfl)
theorem nameK1_int {kd : IntKind} {z : Int} : nameK1 H n K (.int kd z) = K (.int kd z) H n := (rfl)
theorem nameK_bor : nameK H n K (.bor m vs) = K (.bor m vs) H n := (rfl)
theorem nameKA_bor : nameKA H n K (.bor m vs) = K (.bor m vs) H n := (rfl)
theorem nameK1_bor : nameK1 H n K (.bor m vs) = K (.bor m vs) H n := (rfl)
theorem nameK_und : nameK H n K (.und) = K (.und) H n := (rfl)
theorem nameKA_und : nameKA H n K (.und) = K (.und) H n := (rfl)
theorem nameK1_und : nameK1 H n K (.und) = K (.und) H n := (rfl)
theorem xbin_add {k : IntKind} {a b : Int} : xbin .add k a b Kq = Kq (.int k (k.wrap (a + b))) := (rfl)
theorem xbin_sub {k : IntKind} {a b : Int} : xbin .sub k a b Kq = Kq (.int k (k.wrap (a - b))) := (rfl)
theorem xbin_mul {k : IntKind} {a b : Int} : xbin .mul k a b Kq = Kq (.int k (k.wrap (a * b))) := (rfl)
theorem xbin_eql {k : IntKind} {a b : Int} : xbin .eql k a b Kq = Kq (.bool (decide (a = b))) := (rfl)
theorem xbin_neq {k : IntKind} {a b : Int} : xbin .neq k a b Kq = Kq (.bool (!decide (a = b))) := (rfl)
theorem xbin_lss {k : IntKind} {a b : Int} : xbin .lss k a b Kq = Kq (.bool (decide (a < b))) := (rfl)
theorem xbin_leq {k : IntKind} {a b : Int} : xbin .leq k a b Kq = Kq (.bool (decide (a ≤ b))) := (rfl)
theorem xbin_gtr {k : IntKind} {a b : Int} : xbin .gtr k a b Kq = Kq (.bool (decide (b < a))) := (rfl)
theorem xbin_geq {k : IntKind} {a b : Int} : xbin .geq k a b Kq = Kq (.bool (decide (b ≤ a))) := (rfl)
theorem xbin_and {k : IntKind} {a b : Int} : xbin .and k a b Kq = Kq (.int k (bits .and k a b)) := (rfl)
theorem xbin_or {k : IntKind} {a b : Int} : xbin .or k a b Kq = Kq (.int k (bits .or k a b)) := (rfl)
theorem xbin_xor {k : IntKind} {a b : Int} : xbin .xor k a b Kq = Kq (.int k (bits .xor k a b)) := (rfl)
theorem xbin_andNot {k : IntKind} {a b : Int} : xbin .andNot k a b Kq = Kq (.int k (bits .andNot k a b)) := (rfl)
theorem xbin_quo {k : IntKind} {a b : Int} : xbin .quo k a b Kq = (b ≠ 0 ∧ Kq (.int k (k.wrap (a.tdiv b)))) := (rfl)
theorem xbin_rem {k : IntKind} {a b : Int} : xbin .rem k a b Kq = (b ≠ 0 ∧ Kq (.int k (a.tmod b))) := (rfl)
end

/-! ### Words for the walks -/
section
variable {P : Program} {Q : Post} {env : List AV} {H : Heap} {n m : Nat}

theorem then_normal {b : LCode} : Post.then P m b Q .normal = Aw P m b Q := (rfl)
theorem then_ret {b : LCode} : Post.then P m b Q .ret = Q .ret := (rfl)
theorem then_exit {b : LCode} {i : Nat} : Post.then P m b Q (.exit i) = Q (.exit i) := (rfl)
theorem block_normal {i : Nat} : Post.inBlock i Q .normal = Q .normal := (rfl)
theorem block_ret {i : Nat} : Post.inBlock i Q .ret = Q .ret := (rfl)
theorem block_same {i : Nat} : Post.inBlock i Q (.exit i) = Q .normal := by simp [Post.inBlock]
theorem block_exit {i j : Nat} (h : ¬ j = i) : Post.inBlock i Q (.exit j) = Q (.exit j) := by simp [Post.inBlock, h]
theorem again_ret {I : List AV → Heap → Nat → Prop} {μ : List AV → Heap → Nat → Nat} {k : Nat} : Again I μ m k Q .ret = Q .ret := (rfl)
theorem again_exit {I : List AV → Heap → Nat → Prop} {μ : List AV → Heap → Nat → Nat} {k i : Nat} : Again I μ m k Q (.exit i) = Q (.exit i) := (rfl)
theorem id_aw {c : LCode} (h : Aw P m c Q env H n) : Aw P m c Q env H n := h

/-! Calls -/
/-- A value that is handed on with less said of it, no own memory in it. -/
theorem Clo.clean0 {Φ : Fz} {n' : Nat} {β β' : Spots} : ∀ {x y : AV} {v : Value}, Clo [] x y → RV Φ n β x v → RV Φ n' β' y v := by
  have dead : ∀ r π, Heap.get [] r π = none := fun r π => by
    have h : Heap.get [] r [] = none := rfl
    simpa using get_dead h π
  intro x y v h
  refine Clo.rec (motive_1 := fun x y _ => ∀ v, RV Φ n β x v → RV Φ n' β' y v) (motive_2 := fun xs ys _ => ∀ vs, RVs Φ n β xs vs → RVs Φ n' β' ys vs) ?_ ?_ ?_ ?_ ?_ ?_ ?_ ?_ ?_ ?_ ?_ h v
  · intro v h; simpa only [RV] using h
  · intro v h; simp only [RV] at h ⊢; exact ⟨none, 0, [], h, Nat.le_refl _, Nat.zero_le _, .inl rfl, by simp [RVs]⟩
  · intro v h; simp only [RV] at h ⊢
    obtain ⟨s, rfl⟩ := h
    exact ⟨s, 0, [], rfl, Nat.le_refl _, Nat.zero_le _, .inl rfl, by simp [RVs]⟩
  · intro b v h; simpa only [RV] using h
  · intro k z v h; simpa only [RV] using h
  · intro m m' cs cs' hm _ ih v h
    subst hm
    simp only [RV] at h ⊢
    obtain ⟨s, cap, vs, h1, h2, h3, h4, h5⟩ := h
    exact ⟨s, cap, vs, h1, h2, h3, h4, ih vs h5⟩
  · intro x hx v h; exact RV.clean (fun _ _ h => h) hx h
  · intro r π o m m' sz t cs hr; rw [dead] at hr; cases hr
  · intro vs us _ ih v h
    simp only [RV] at h ⊢
    obtain ⟨arr, h1, h2⟩ := h
    exact ⟨arr, h1, ih _ h2⟩
  · intro vs h; simpa only [RVs] using h
  · intro v u vs us _ _ ih1 ih2 ws h
    simp only [RVs] at h ⊢
    obtain ⟨v', vs', e, o, g1, g2⟩ := h
    exact ⟨v', vs', e, o, ih1 _ g1, ih2 _ g2⟩

theorem Cloz.clean0 {Φ : Fz} {n' : Nat} {β β' : Spots} : ∀ {xs ys : List AV} {vs : List Value}, Cloz [] xs ys → RVt Φ n β xs vs → RVt Φ n' β' ys vs
  | [], ys, vs, h, k => by simp only [Cloz] at h; subst h; simpa only [RVt] using k
  | x :: xs, ys, vs, h, k => by
    simp only [Cloz] at h
    obtain ⟨y, ys', rfl, h1, h2⟩ := h
    simp only [RVt] at k ⊢
    obtain ⟨v, vs', e, k1, k2⟩ := k
    exact ⟨v, vs', e, h1.clean0 k1, h2.clean0 k2⟩

theorem Inl.of_fn0 {f : FuncId} {args args' : List AV} {r : AV} (hc : Cloz [] args args') (hp : Fn P f args' r) (hr : r.noRef = true) :
    Inl P f args H n (nameV n r).1 ((nameV n r).2.1 ++ H) (nameV n r).2.2 := by
  intro Φ w β vs hK hH hv
  have hv' : RVt (Φ.all w false) 0 (fun _ _ => ⟨false, 0, 0⟩) args' vs := by
    have h1 : RVt Φ 0 (fun _ _ => ⟨false, 0, 0⟩) args' vs := hc.clean0 hv
    exact h1.moreT Fz.le_all.tle (Nat.le_refl _) fun _ _ => rfl
  obtain ⟨u1, u2, u3⟩ := nameV_up (d := n) (n := 0) hr
  rw [Nat.zero_add] at u1 u2 u3
  refine (hp (Φ.all w false) w _ vs hK.all RH.empty hv').mono fun e w' ⟨v, Φ1, β1, he, g1, g2, g3, g4, g5, g6, g7⟩ => ?_
  generalize hΦ2 : (fun b => match Φ1 b with | some (true, o) => some (true, o) | _ => Φ b : Fz) = Φ2
  have hup : ∀ b x, Φ b = some x → Φ1 b = some x := fun b x h => g3 b x (Fz.le_all b x h)
  have h2 : ∀ b, Φ2 b = match Φ1 b with | some (true, o) => some (true, o) | _ => Φ b := fun b => by rw [← hΦ2]
  have hle : Φ.le Φ2 := fun b x h => by
    rw [h2, hup b x h]
    obtain ⟨f, o⟩ := x
    cases f
    · exact h
    · rfl
  have htle : Φ1.tle Φ2 := fun b o h => by rw [h2, h]
  have hK2 : Keep Φ2 w' := fun b x h => by
    rw [h2] at h
    split at h
    · rename_i o ho; cases h; exact g4 b _ ho
    · exact g4 b x (hup b x h)
  refine ⟨v, Φ2, fun i => if i < n then β i else β1 (i - n), he, by rw [← u3]; omega, fun i hi => by simp [hi], hle, hK2, ?_, ?_, g7⟩
  · rw [← u1, ← u3, Nat.add_comm]
    exact RV.up htle (fun i _ => by simp [show ¬ i + n < n by omega]) g5
  · rw [← u2, ← u3, Nat.add_comm]
    have hall : ∀ r π t, H.get r π = some t → (β r π).ex = true → ∃ o, w.heap[(β r π).b]? = some o ∧ Φ (β r π).b = none ∧ Φ1 (β r π).b = some (false, o) := fun r π t hr hx => by
      obtain ⟨k1, cur, k2, _⟩ := hH.own hr hx
      exact ⟨_, k2, k1, g3 _ _ (by simp [Fz.all, k1, k2])⟩
    refine RH.join hH g6 (fun r π t hr hx => ?_) hle.tle (fun xs vs h _ => h.moreT htle (Nat.le_refl _) fun _ _ => rfl) fun b hb => ?_
    · obtain ⟨o, k1, k2, k3⟩ := hall r π t hr hx
      refine ⟨by simp [k3], by rw [k1]; exact g4 _ _ k3, ?_⟩
      rw [h2, k3]; exact k2
    · rw [h2, hb]
      cases e : Φ b with
      | none => rfl
      | some x => rw [hup b x e] at hb; cases hb

variable {Ks : List AV → Heap → Nat → Prop} {Kd : DK} {os : List LOper} {d : Option Nat} {hs : List Heap} {ls : List (Nat × List Nat × Option Root)} {fs : Fresh}
/-- It reads its arguments, which may be own memory, and hands back memory of its own. -/
theorem call_read {f : FuncId} {xs : List Opd} {args' : List AV} {r : AV} (hp : Fn P f args' r) (hc : Cloz H (xs.map (·.val env)) args') (h1 : r.noRef = true) (h2 : r.noBor = true) (hk : nameK H n (fun y H' n' => xops P Ks os (put env d y) H' n') r) :
    xops P Ks (⟨d, .call f xs, none⟩ :: os) env H n := by
  simp only [xops, xop]
  rw [nameK_eq] at hk
  exact ⟨_, _, _, Inl.of_fn_read hc hp h1 h2, hk⟩
/-- It reads its arguments, none of which is own memory, and may hand back parts of them. -/
theorem call_part {f : FuncId} {xs : List Opd} {args' : List AV} {r : AV} (hp : Fn P f args' r) (hc : Cloz [] (xs.map (·.val env)) args') (h1 : r.noRef = true) (hk : nameK H n (fun y H' n' => xops P Ks os (put env d y) H' n') r) :
    xops P Ks (⟨d, .call f xs, none⟩ :: os) env H n := by
  simp only [xops, xop]
  rw [nameK_eq] at hk
  exact ⟨_, _, _, Inl.of_fn0 hc hp h1, hk⟩
theorem call_inl {f : FuncId} {xs : List Opd} {r : AV} {H' : Heap} {n' : Nat} (hp : Inl P f (xs.map (·.val env)) H n r H' n') (hk : xops P Ks os (put env d r) H' n') : xops P Ks (⟨d, .call f xs, none⟩ :: os) env H n := by
  simp only [xops, xop]
  exact ⟨_, _, _, hp, hk⟩
theorem calld_read {f : FuncId} {xs : List Opd} {args' : List AV} {r : AV} (hp : Fn P f args' r) (hc : Cloz H (xs.map (·.val env)) args') (h1 : r.noRef = true) (h2 : r.noBor = true) (hk : nameK H n (fun y H' n' => kept H' ls ∧ xds P Kd os (H' :: hs) ls (put env d y) H' n' fs) r) :
    xds P Kd (⟨d, .call f xs, none⟩ :: os) hs ls env H n fs := by
  rw [nameK_eq] at hk
  exact ⟨_, _, _, Inl.of_fn_read hc hp h1 h2, hk⟩
theorem calld_part {f : FuncId} {xs : List Opd} {args' : List AV} {r : AV} (hp : Fn P f args' r) (hc : Cloz [] (xs.map (·.val env)) args') (h1 : r.noRef = true) (hk : nameK H n (fun y H' n' => kept H' ls ∧ xds P Kd os (H' :: hs) ls (put env d y) H' n' fs) r) :
    xds P Kd (⟨d, .call f xs, none⟩ :: os) hs ls env H n fs := by
  rw [nameK_eq] at hk
  exact ⟨_, _, _, Inl.of_fn0 hc hp h1, hk⟩
theorem calld_inl {f : FuncId} {xs : List Opd} {r : AV} {H' : Heap} {n' : Nat} (hp : Inl P f (xs.map (·.val env)) H n r H' n') (hk : kept H' ls ∧ xds P Kd os (H' :: hs) ls (put env d r) H' n' fs) : xds P Kd (⟨d, .call f xs, none⟩ :: os) hs ls env H n fs :=
  ⟨_, _, _, hp, hk⟩
end

/-! ### By the value that is looked at -/
section
variable {P : Program} {Q : Post} {env : List AV} {H : Heap} {n m : Nat} {K : List AV → Heap → Nat → Prop} {Kd : DK} {os : List LOper} {d : Option Nat} {op : LOp} {t : Nat} {want b : Bool} {x y : AV} {cx cy : LCode} {hs : List Heap} {ls : List (Nat × List Nat × Option Root)} {fs : Fresh}

def CondK (v : AV) (P : Program) (m : Nat) (cx cy : LCode) (Q : Post) (env : List AV) (H : Heap) (n : Nat) : Prop :=
  match v with
  | .bool true => Aw P m cx Q env H n
  | .bool false => Aw P m cy Q env H n
  | _ => False
theorem CondK_true : CondK (.bool true) P m cx cy Q env H n = Aw P m cx Q env H n := (rfl)
theorem CondK_false : CondK (.bool false) P m cx cy Q env H n = Aw P m cy Q env H n := (rfl)
theorem CondK_if (h1 : b = true → CondK (.bool true) P m cx cy Q env H n) (h2 : b = false → CondK (.bool false) P m cx cy Q env H n) : CondK (.bool b) P m cx cy Q env H n := by
  cases b
  · exact h2 rfl
  · exact h1 rfl
theorem Aw.cond_of {c : Opd} (h : CondK (c.val env) P m cx cy Q env H n) : Aw P m (.cond c cx cy) Q env H n := by
  unfold CondK at h
  split at h
  · rename_i hc; exact Aw.cond hc (fun _ => h) (fun h => by cases h)
  · rename_i hc; exact Aw.cond hc (fun h => by cases h) (fun _ => h)
  · exact h.elim

def GK (v : AV) (want : Bool) (P : Program) (K : List AV → Heap → Nat → Prop) (d : Option Nat) (op : LOp) (os : List LOper) (env : List AV) (H : Heap) (n : Nat) : Prop :=
  match v with
  | .bool b => if b = want then xops P K (⟨d, op, none⟩ :: os) env H n else xops P K os (put env d .und) H n
  | .und => xops P K os (put env d .und) H n
  | _ => False
theorem xops_g : xops P K (⟨d, op, some (t, want)⟩ :: os) env H n = GK (env.getD t .unk) want P K d op os env H n := (rfl)
theorem GK_tt : GK (.bool true) true P K d op os env H n = xops P K (⟨d, op, none⟩ :: os) env H n := (rfl)
theorem GK_ff : GK (.bool false) false P K d op os env H n = xops P K (⟨d, op, none⟩ :: os) env H n := (rfl)
theorem GK_tf : GK (.bool true) false P K d op os env H n = xops P K os (put env d .und) H n := (rfl)
theorem GK_ft : GK (.bool false) true P K d op os env H n = xops P K os (put env d .und) H n := (rfl)
theorem GK_und : GK .und want P K d op os env H n = xops P K os (put env d .und) H n := (rfl)
theorem GK_if (h1 : b = true → GK (.bool true) want P K d op os env H n) (h2 : b = false → GK (.bool false) want P K d op os env H n) : GK (.bool b) want P K d op os env H n := by
  cases b
  · exact h2 rfl
  · exact h1 rfl

def GD (v : AV) (want : Bool) (P : Program) (Kd : DK) (d : Option Nat) (op : LOp) (os : List LOper) (hs : List Heap) (ls : List (Nat × List Nat × Option Root)) (env : List AV) (H : Heap) (n : Nat) (fs : Fresh) : Prop :=
  match v with
  | .bool b => if b = want then xds P Kd (⟨d, op, none⟩ :: os) hs ls env H n fs else xds P Kd os hs ls (put env d .und) H n fs
  | .und => xds P Kd os hs ls (put env d .und) H n fs
  | _ => False
theorem xds_g : xds P Kd (⟨d, op, some (t, want)⟩ :: os) hs ls env H n fs = GD (env.getD t .unk) want P Kd d op os hs ls env H n fs := by
  cases hv : env.getD t .unk
  case bool b =>
    simp only [xds, gate, GD, hv]
    by_cases h : b = want
    · subst h; simp only [decide_true, if_true]
    · simp only [h, decide_false, if_false]
  all_goals simp only [xds, gate, GD, hv]
theorem GD_tt : GD (.bool true) true P Kd d op os hs ls env H n fs = xds P Kd (⟨d, op, none⟩ :: os) hs ls env H n fs := (rfl)
theorem GD_ff : GD (.bool false) false P Kd d op os hs ls env H n fs = xds P Kd (⟨d, op, none⟩ :: os) hs ls env H n fs := (rfl)
theorem GD_tf : GD (.bool true) false P Kd d op os hs ls env H n fs = xds P Kd os hs ls (put env d .und) H n fs := (rfl)
theorem GD_ft : GD (.bool false) true P Kd d op os hs ls env H n fs = xds P Kd os hs ls (put env d .und) H n fs := (rfl)
theorem GD_und : GD .und want P Kd d op os hs ls env H n fs = xds P Kd os hs ls (put env d .und) H n fs := (rfl)
theorem GD_if (h1 : b = true → GD (.bool true) want P Kd d op os hs ls env H n fs) (h2 : b = false → GD (.bool false) want P Kd d op os hs ls env H n fs) : GD (.bool b) want P Kd d op os hs ls env H n fs := by
  cases b
  · exact h2 rfl
  · exact h1 rfl

def PK (v : AV) (P : Program) (K : List AV → Heap → Nat → Prop) (d : Option Nat) (x y : AV) (os : List LOper) (env : List AV) (H : Heap) (n : Nat) : Prop :=
  match v with
  | .bool true => xops P K os (put env d x) H n
  | .bool false => xops P K os (put env d y) H n
  | _ => False
theorem xops_pick {c x y : Opd} : xops P K (⟨d, .pick c x y, none⟩ :: os) env H n = PK (c.val env) P K d (x.val env) (y.val env) os env H n := by
  simp only [xops, xop, PK]
  cases c.val env
  case bool t => cases t <;> simp
  all_goals rfl
theorem PK_true : PK (.bool true) P K d x y os env H n = xops P K os (put env d x) H n := (rfl)
theorem PK_false : PK (.bool false) P K d x y os env H n = xops P K os (put env d y) H n := (rfl)
theorem PK_if (h1 : b = true → PK (.bool true) P K d x y os env H n) (h2 : b = false → PK (.bool false) P K d x y os env H n) : PK (.bool b) P K d x y os env H n := by
  cases b
  · exact h2 rfl
  · exact h1 rfl

def PD (v : AV) (P : Program) (Kd : DK) (d : Option Nat) (x y : AV) (os : List LOper) (hs : List Heap) (ls : List (Nat × List Nat × Option Root)) (env : List AV) (H : Heap) (n : Nat) (fs : Fresh) : Prop :=
  match v with
  | .bool true => xds P Kd os hs ls (put env d x) H n fs
  | .bool false => xds P Kd os hs ls (put env d y) H n fs
  | _ => False
theorem xds_pick {c x y : Opd} : xds P Kd (⟨d, .pick c x y, none⟩ :: os) hs ls env H n fs = PD (c.val env) P Kd d (x.val env) (y.val env) os hs ls env H n fs := by
  show (same H none hs ∧ xop P env H n (fun v _ _ => xds P Kd os hs ls (put env d v) H n fs) (.pick c x y)) = _
  rw [same_none, true_and]
  simp only [xop, PD]
  cases c.val env
  case bool t => cases t <;> simp
  all_goals rfl
theorem PD_true : PD (.bool true) P Kd d x y os hs ls env H n fs = xds P Kd os hs ls (put env d x) H n fs := (rfl)
theorem PD_false : PD (.bool false) P Kd d x y os hs ls env H n fs = xds P Kd os hs ls (put env d y) H n fs := (rfl)
theorem PD_if (h1 : b = true → PD (.bool true) P Kd d x y os hs ls env H n fs) (h2 : b = false → PD (.bool false) P Kd d x y os hs ls env H n fs) : PD (.bool b) P Kd d x y os hs ls env H n fs := by
  cases b
  · exact h2 rfl
  · exact h1 rfl
end

/-! ### What is not read (for the printer) -/
def tagOf : Op → Nat
  | .build .. => 1 | .buildSlice .. => 2 | .load .. => 3 | .store .. => 4 | .nilCheck _ => 5 | .binOp .. => 6 | .unOp .. => 7 | .convert .. => 8 | .makeSlice .. => 9 | .slice .. => 10
  | .fieldAddr .. => 11 | .field .. => 12 | .indexAddr .. => 13 | .index .. => 14 | .extract .. => 15 | .call { callee := .builtin .append, .. } => 16 | .call { callee := .builtin .copy, .. } => 17
  | .call { callee := .builtin .len, .. } => 18 | .call { callee := .builtin .max, .. } => 19 | .call { callee := .builtin .min, .. } => 20 | .call _ => 21 | .alloc _ => 22 | .box .. => 23 | _ => 99

def missOps (P : Program) (all : List Oper) (id : Nat) : List Oper → List (Nat × Nat)
  | [] => []
  | o :: os => (if (lowOper P all o).isNone then [(id, tagOf o.op)] else []) ++ missOps P all id os

def missCode (P : Program) : Code → List (Nat × Nat)
  | .seq a b => missCode P a ++ missCode P b
  | .cond c a b => (if (lowOpd c).isNone then [(0, 101)] else []) ++ missCode P a ++ missCode P b
  | .block _ a => missCode P a
  | .loop a => missCode P a
  | .region id ops draw => (if draw && (lowRegion P ops draw).isNone then [(id, 100)] else []) ++ missOps P ops.toList id ops.toList
  | .label _ => [(0, 102)]
  | .scope _ => [(0, 103)]
  | .rangeFunc .. => [(0, 104)]
  | .goto _ => [(0, 105)]
  | _ => []

def missFun (P : Program) (f : FuncId) : List (Nat × Nat) :=
  match P.funcs[f]? with
  | some fn => match fn.body with
    | some c => missCode P c ++ (if (lowRess P fn.results.toList).isNone then [(0, 106)] else [])
    | none => []
  | none => []
end Go.Proofs.Ythbefahhpikcaaa
