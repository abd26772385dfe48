/-
  No cell of these rows narrows 'for every input' (looked for: loops, veiled, ifaces, maps, wideKeys, modest, calm, conditions, laid).
  DERIVED. THE GIVEN ROWS OF THIS SEAT. 6 by the template 'for every input the law returns true; each argument reads behind the call as it read before'; 0 by the template 'total and deterministic' (their statements: YtobbmlnagjhofaaTotals.lean).
  GIVEN WITH THE SEED: the statements are not yours to turn. If you find one false, say at which input.
  Laid BY PROGRAM, IN A SANDBOX (cutbox-rows.mjs): the forced cells as the released guide's own fill.sh prints them over the translation 7dcbb7b151f71767… (all of the seat's roots in one cut). By AI agents, Wed Nov 11 2026. No macro, syntax, notation, axiom, sorry.
-/
import Derived.Test.YtobbmlnagjhofaaChecked
import GoSem.Claim
import GoSem.ClaimJoined
import GoSem.ClaimMapViews
import Derived.JoinedTies
import Derived.KernelRfl
namespace Go.Proofs.Ytobbmlnagjhofaa
/- THE CELL 'sum', in the pinned program and in every row, IS THE sha256 OF THE DUMP (.gsa) THAT YtobbmlnagjhofaaProg.lean LOADS. Nothing in Lean hashes anything: it is a label: what it is worth is what the hold of that sum in a sandbox is worth. -/
noncomputable def Try.pinned : Pinned := { name := "ytobbmlnagjhofaa", sum := "7dcbb7b151f7176732a9e8b52707ae83bcc9af1eb7dc7b900046bb1ece8e5082", checked := Try.checked }
namespace Rows
def none {H : Type} : Left H := { results := [], args := [] }

/-- 'laws.FnHostClone': WHATEVER THE INPUT: true; the input reads as it did. -/
def fnHostCloneSpec : ChangeSpec := { name := "fnHostClone", fn := fun _ => fun
  | [d] => { results := [.lit (.bool true)], args := [d] }
  | _ => none }
def fnHostCloneRow : OpenClaim := { program := "ytobbmlnagjhofaa", sum := "7dcbb7b151f7176732a9e8b52707ae83bcc9af1eb7dc7b900046bb1ece8e5082", func := "loop.example/guesthouse/laws.FnHostClone", spec := "fnHostClone", apart := false }
def FnHostCloneSaid : Prop := fnHostCloneRow.holds Try.pinned (OpenSpec.ofChange fnHostCloneSpec)

/-- ITS FALSE NEIGHBOUR: 'it returns false'. Refute it at one input. -/
def fnHostCloneWrong : ChangeSpec := { name := "fnHostClone", fn := fun _ => fun
  | [d] => { results := [.lit (.bool false)], args := [d] }
  | _ => none }
def FnHostCloneWrongFalsely : Prop := fnHostCloneRow.holds Try.pinned (OpenSpec.ofChange fnHostCloneWrong)

/-- 'laws.FnHostBack': WHATEVER THE INPUT: true; the input reads as it did. -/
def fnHostBackSpec : ChangeSpec := { name := "fnHostBack", fn := fun _ => fun
  | [d] => { results := [.lit (.bool true)], args := [d] }
  | _ => none }
def fnHostBackRow : OpenClaim := { program := "ytobbmlnagjhofaa", sum := "7dcbb7b151f7176732a9e8b52707ae83bcc9af1eb7dc7b900046bb1ece8e5082", func := "loop.example/guesthouse/laws.FnHostBack", spec := "fnHostBack", apart := false }
def FnHostBackSaid : Prop := fnHostBackRow.holds Try.pinned (OpenSpec.ofChange fnHostBackSpec)

/-- ITS FALSE NEIGHBOUR: 'it returns false'. Refute it at one input. -/
def fnHostBackWrong : ChangeSpec := { name := "fnHostBack", fn := fun _ => fun
  | [d] => { results := [.lit (.bool false)], args := [d] }
  | _ => none }
def FnHostBackWrongFalsely : Prop := fnHostBackRow.holds Try.pinned (OpenSpec.ofChange fnHostBackWrong)

/-- 'laws.FnHostGive': WHATEVER THE INPUT: true; the input reads as it did. -/
def fnHostGiveSpec : ChangeSpec := { name := "fnHostGive", fn := fun _ => fun
  | [d] => { results := [.lit (.bool true)], args := [d] }
  | _ => none }
def fnHostGiveRow : OpenClaim := { program := "ytobbmlnagjhofaa", sum := "7dcbb7b151f7176732a9e8b52707ae83bcc9af1eb7dc7b900046bb1ece8e5082", func := "loop.example/guesthouse/laws.FnHostGive", spec := "fnHostGive", apart := false }
def FnHostGiveSaid : Prop := fnHostGiveRow.holds Try.pinned (OpenSpec.ofChange fnHostGiveSpec)

/-- ITS FALSE NEIGHBOUR: 'it returns false'. Refute it at one input. -/
def fnHostGiveWrong : ChangeSpec := { name := "fnHostGive", fn := fun _ => fun
  | [d] => { results := [.lit (.bool false)], args := [d] }
  | _ => none }
def FnHostGiveWrongFalsely : Prop := fnHostGiveRow.holds Try.pinned (OpenSpec.ofChange fnHostGiveWrong)

/-- 'laws.FnExactHostClone': WHATEVER THE INPUT: true; the input reads as it did. -/
def fnExactHostCloneSpec : ChangeSpec := { name := "fnExactHostClone", fn := fun _ => fun
  | [d1, d2] => { results := [.lit (.bool true)], args := [d1, d2] }
  | _ => none }
def fnExactHostCloneRow : OpenClaim := { program := "ytobbmlnagjhofaa", sum := "7dcbb7b151f7176732a9e8b52707ae83bcc9af1eb7dc7b900046bb1ece8e5082", func := "loop.example/guesthouse/laws.FnExactHostClone", spec := "fnExactHostClone", apart := false }
def FnExactHostCloneSaid : Prop := fnExactHostCloneRow.holds Try.pinned (OpenSpec.ofChange fnExactHostCloneSpec)

/-- ITS FALSE NEIGHBOUR: 'it returns false'. Refute it at one input. -/
def fnExactHostCloneWrong : ChangeSpec := { name := "fnExactHostClone", fn := fun _ => fun
  | [d1, d2] => { results := [.lit (.bool false)], args := [d1, d2] }
  | _ => none }
def FnExactHostCloneWrongFalsely : Prop := fnExactHostCloneRow.holds Try.pinned (OpenSpec.ofChange fnExactHostCloneWrong)

/-- 'laws.FnExactHostBack': WHATEVER THE INPUT: true; the input reads as it did. -/
def fnExactHostBackSpec : ChangeSpec := { name := "fnExactHostBack", fn := fun _ => fun
  | [d1, d2, d3] => { results := [.lit (.bool true)], args := [d1, d2, d3] }
  | _ => none }
def fnExactHostBackRow : OpenClaim := { program := "ytobbmlnagjhofaa", sum := "7dcbb7b151f7176732a9e8b52707ae83bcc9af1eb7dc7b900046bb1ece8e5082", func := "loop.example/guesthouse/laws.FnExactHostBack", spec := "fnExactHostBack", apart := false }
def FnExactHostBackSaid : Prop := fnExactHostBackRow.holds Try.pinned (OpenSpec.ofChange fnExactHostBackSpec)

/-- ITS FALSE NEIGHBOUR: 'it returns false'. Refute it at one input. -/
def fnExactHostBackWrong : ChangeSpec := { name := "fnExactHostBack", fn := fun _ => fun
  | [d1, d2, d3] => { results := [.lit (.bool false)], args := [d1, d2, d3] }
  | _ => none }
def FnExactHostBackWrongFalsely : Prop := fnExactHostBackRow.holds Try.pinned (OpenSpec.ofChange fnExactHostBackWrong)

/-- 'laws.FnExactHostGive': WHATEVER THE INPUT: true; the input reads as it did. -/
def fnExactHostGiveSpec : ChangeSpec := { name := "fnExactHostGive", fn := fun _ => fun
  | [d1, d2, d3] => { results := [.lit (.bool true)], args := [d1, d2, d3] }
  | _ => none }
def fnExactHostGiveRow : OpenClaim := { program := "ytobbmlnagjhofaa", sum := "7dcbb7b151f7176732a9e8b52707ae83bcc9af1eb7dc7b900046bb1ece8e5082", func := "loop.example/guesthouse/laws.FnExactHostGive", spec := "fnExactHostGive", apart := false }
def FnExactHostGiveSaid : Prop := fnExactHostGiveRow.holds Try.pinned (OpenSpec.ofChange fnExactHostGiveSpec)

/-- ITS FALSE NEIGHBOUR: 'it returns false'. Refute it at one input. -/
def fnExactHostGiveWrong : ChangeSpec := { name := "fnExactHostGive", fn := fun _ => fun
  | [d1, d2, d3] => { results := [.lit (.bool false)], args := [d1, d2, d3] }
  | _ => none }
def FnExactHostGiveWrongFalsely : Prop := fnExactHostGiveRow.holds Try.pinned (OpenSpec.ofChange fnExactHostGiveWrong)

/- THE SECOND FORM. 'bulk': how many values and letters a reading holds, each counted each time it is reached (what is shared counts as often as it is met; a slice's spare places count too). A statement '..UptoSaid' is the law's where the arguments, and the package variables that the reading takes, are together of bulk at most 1048576: NARROWER than '..Said'. Prove '..Said' where nothing that the law and all that it calls make is longer than what came in: it says more and counts as full. Else prove '..UptoSaid'. A law counts once. -/
mutual
def uptoBulk {H : Type} : DataW H → Nat
  | .lit (.string bytes) => bytes.length + 1
  | .lit _ => 1
  | .nil => 1
  | .ptr d => uptoBulk d + 1
  | .slice elems spare => uptoBulkAll elems + uptoBulkAll spare + 1
  | .agg parts => uptoBulkAll parts + 1
  | .iface _ d => uptoBulk d + 1
  | .map entries => uptoBulkEntries entries + 1
  | .held _ => 1
def uptoBulkAll {H : Type} : List (DataW H) → Nat
  | [] => 0
  | d :: r => uptoBulk d + uptoBulkAll r
def uptoBulkEntries {H : Type} : List (Lit × DataW H) → Nat
  | [] => 0
  | x :: r => uptoBulkEntry x + uptoBulkEntries r
def uptoBulkEntry {H : Type} : Lit × DataW H → Nat
  | (.string bytes, d) => bytes.length + uptoBulk d + 1
  | (_, d) => uptoBulk d + 1
 end
def uptoSmall : (H : Type) → List (DataW H) → Bool := fun _ ds => decide (uptoBulkAll ds ≤ 1048576)
def OpenSpec.upto (s : _root_.Go.ChangeSpec) : _root_.Go.OpenSpec := { _root_.Go.OpenSpec.ofChange s with cond := some uptoSmall }

/-- 'laws.FnHostClone', WHERE WHAT IT READS IS OF BULK AT MOST 1048576: true; the input reads as it did. -/
def fnHostCloneUptoRow : OpenClaim := { program := "ytobbmlnagjhofaa", sum := "7dcbb7b151f7176732a9e8b52707ae83bcc9af1eb7dc7b900046bb1ece8e5082", func := "loop.example/guesthouse/laws.FnHostClone", spec := "fnHostClone", apart := false, narrowed := true }
def FnHostCloneUptoSaid : Prop := fnHostCloneUptoRow.holds Try.pinned (OpenSpec.upto fnHostCloneSpec)

/-- 'laws.FnHostBack', WHERE WHAT IT READS IS OF BULK AT MOST 1048576: true; the input reads as it did. -/
def fnHostBackUptoRow : OpenClaim := { program := "ytobbmlnagjhofaa", sum := "7dcbb7b151f7176732a9e8b52707ae83bcc9af1eb7dc7b900046bb1ece8e5082", func := "loop.example/guesthouse/laws.FnHostBack", spec := "fnHostBack", apart := false, narrowed := true }
def FnHostBackUptoSaid : Prop := fnHostBackUptoRow.holds Try.pinned (OpenSpec.upto fnHostBackSpec)

/-- 'laws.FnHostGive', WHERE WHAT IT READS IS OF BULK AT MOST 1048576: true; the input reads as it did. -/
def fnHostGiveUptoRow : OpenClaim := { program := "ytobbmlnagjhofaa", sum := "7dcbb7b151f7176732a9e8b52707ae83bcc9af1eb7dc7b900046bb1ece8e5082", func := "loop.example/guesthouse/laws.FnHostGive", spec := "fnHostGive", apart := false, narrowed := true }
def FnHostGiveUptoSaid : Prop := fnHostGiveUptoRow.holds Try.pinned (OpenSpec.upto fnHostGiveSpec)

/-- 'laws.FnExactHostClone', WHERE WHAT IT READS IS OF BULK AT MOST 1048576: true; the input reads as it did. -/
def fnExactHostCloneUptoRow : OpenClaim := { program := "ytobbmlnagjhofaa", sum := "7dcbb7b151f7176732a9e8b52707ae83bcc9af1eb7dc7b900046bb1ece8e5082", func := "loop.example/guesthouse/laws.FnExactHostClone", spec := "fnExactHostClone", apart := false, narrowed := true }
def FnExactHostCloneUptoSaid : Prop := fnExactHostCloneUptoRow.holds Try.pinned (OpenSpec.upto fnExactHostCloneSpec)

/-- 'laws.FnExactHostBack', WHERE WHAT IT READS IS OF BULK AT MOST 1048576: true; the input reads as it did. -/
def fnExactHostBackUptoRow : OpenClaim := { program := "ytobbmlnagjhofaa", sum := "7dcbb7b151f7176732a9e8b52707ae83bcc9af1eb7dc7b900046bb1ece8e5082", func := "loop.example/guesthouse/laws.FnExactHostBack", spec := "fnExactHostBack", apart := false, narrowed := true }
def FnExactHostBackUptoSaid : Prop := fnExactHostBackUptoRow.holds Try.pinned (OpenSpec.upto fnExactHostBackSpec)

/-- 'laws.FnExactHostGive', WHERE WHAT IT READS IS OF BULK AT MOST 1048576: true; the input reads as it did. -/
def fnExactHostGiveUptoRow : OpenClaim := { program := "ytobbmlnagjhofaa", sum := "7dcbb7b151f7176732a9e8b52707ae83bcc9af1eb7dc7b900046bb1ece8e5082", func := "loop.example/guesthouse/laws.FnExactHostGive", spec := "fnExactHostGive", apart := false, narrowed := true }
def FnExactHostGiveUptoSaid : Prop := fnExactHostGiveUptoRow.holds Try.pinned (OpenSpec.upto fnExactHostGiveSpec)

end Rows
end Go.Proofs.Ytobbmlnagjhofaa
