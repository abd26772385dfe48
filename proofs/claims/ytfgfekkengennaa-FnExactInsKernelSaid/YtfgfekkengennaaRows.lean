/-
  No cell of these rows narrows 'for every input' (looked for: loops, veiled, ifaces, maps, wideKeys, modest, calm, conditions, laid).
  DERIVED. THE GIVEN ROWS OF THIS SEAT. 10 by the template 'for every input the law returns true; each argument reads behind the call as it read before'; 0 by the template 'total and deterministic' (their statements: YtfgfekkengennaaTotals.lean).
  GIVEN WITH THE SEED: the statements are not yours to turn. If you find one false, say at which input.
  Laid BY PROGRAM, IN A SANDBOX (cutbox-rows.mjs): the forced cells as the released guide's own fill.sh prints them over the translation 45f95c38c8c1a1ba… (all of the seat's roots in one cut). By AI agents, Wed Nov 11 2026. No macro, syntax, notation, axiom, sorry.
-/
import Derived.Test.YtfgfekkengennaaChecked
import GoSem.Claim
import GoSem.ClaimJoined
import GoSem.ClaimMapViews
import Derived.JoinedTies
import Derived.KernelRfl
namespace Go.Proofs.Ytfgfekkengennaa
/- THE CELL 'sum', in the pinned program and in every row, IS THE sha256 OF THE DUMP (.gsa) THAT YtfgfekkengennaaProg.lean LOADS. Nothing in Lean hashes anything: it is a label: what it is worth is what the hold of that sum in a sandbox is worth. -/
noncomputable def Try.pinned : Pinned := { name := "ytfgfekkengennaa", sum := "45f95c38c8c1a1ba1a342485a1b5079e827026d597ce4f33a1b71fa10160c501", checked := Try.checked }
namespace Rows
def none {H : Type} : Left H := { results := [], args := [] }

/-- 'laws.FnWordOk': WHATEVER THE INPUT: true; the input reads as it did. -/
def fnWordOkSpec : ChangeSpec := { name := "fnWordOk", fn := fun _ => fun
  | [d] => { results := [.lit (.bool true)], args := [d] }
  | _ => none }
def fnWordOkRow : OpenClaim := { program := "ytfgfekkengennaa", sum := "45f95c38c8c1a1ba1a342485a1b5079e827026d597ce4f33a1b71fa10160c501", func := "loop.example/guesthouse/laws.FnWordOk", spec := "fnWordOk", apart := false }
def FnWordOkSaid : Prop := fnWordOkRow.holds Try.pinned (OpenSpec.ofChange fnWordOkSpec)

/-- ITS FALSE NEIGHBOUR: 'it returns false'. Refute it at one input. -/
def fnWordOkWrong : ChangeSpec := { name := "fnWordOk", fn := fun _ => fun
  | [d] => { results := [.lit (.bool false)], args := [d] }
  | _ => none }
def FnWordOkWrongFalsely : Prop := fnWordOkRow.holds Try.pinned (OpenSpec.ofChange fnWordOkWrong)

/-- 'laws.FnInsOk': WHATEVER THE INPUT: true; the input reads as it did. -/
def fnInsOkSpec : ChangeSpec := { name := "fnInsOk", fn := fun _ => fun
  | [d] => { results := [.lit (.bool true)], args := [d] }
  | _ => none }
def fnInsOkRow : OpenClaim := { program := "ytfgfekkengennaa", sum := "45f95c38c8c1a1ba1a342485a1b5079e827026d597ce4f33a1b71fa10160c501", func := "loop.example/guesthouse/laws.FnInsOk", spec := "fnInsOk", apart := false }
def FnInsOkSaid : Prop := fnInsOkRow.holds Try.pinned (OpenSpec.ofChange fnInsOkSpec)

/-- ITS FALSE NEIGHBOUR: 'it returns false'. Refute it at one input. -/
def fnInsOkWrong : ChangeSpec := { name := "fnInsOk", fn := fun _ => fun
  | [d] => { results := [.lit (.bool false)], args := [d] }
  | _ => none }
def FnInsOkWrongFalsely : Prop := fnInsOkRow.holds Try.pinned (OpenSpec.ofChange fnInsOkWrong)

/-- 'laws.FnInsWord': WHATEVER THE INPUT: true; the input reads as it did. -/
def fnInsWordSpec : ChangeSpec := { name := "fnInsWord", fn := fun _ => fun
  | [d] => { results := [.lit (.bool true)], args := [d] }
  | _ => none }
def fnInsWordRow : OpenClaim := { program := "ytfgfekkengennaa", sum := "45f95c38c8c1a1ba1a342485a1b5079e827026d597ce4f33a1b71fa10160c501", func := "loop.example/guesthouse/laws.FnInsWord", spec := "fnInsWord", apart := false }
def FnInsWordSaid : Prop := fnInsWordRow.holds Try.pinned (OpenSpec.ofChange fnInsWordSpec)

/-- ITS FALSE NEIGHBOUR: 'it returns false'. Refute it at one input. -/
def fnInsWordWrong : ChangeSpec := { name := "fnInsWord", fn := fun _ => fun
  | [d] => { results := [.lit (.bool false)], args := [d] }
  | _ => none }
def FnInsWordWrongFalsely : Prop := fnInsWordRow.holds Try.pinned (OpenSpec.ofChange fnInsWordWrong)

/-- 'laws.FnInsFrom': WHATEVER THE INPUT: true; the input reads as it did. -/
def fnInsFromSpec : ChangeSpec := { name := "fnInsFrom", fn := fun _ => fun
  | [d] => { results := [.lit (.bool true)], args := [d] }
  | _ => none }
def fnInsFromRow : OpenClaim := { program := "ytfgfekkengennaa", sum := "45f95c38c8c1a1ba1a342485a1b5079e827026d597ce4f33a1b71fa10160c501", func := "loop.example/guesthouse/laws.FnInsFrom", spec := "fnInsFrom", apart := false }
def FnInsFromSaid : Prop := fnInsFromRow.holds Try.pinned (OpenSpec.ofChange fnInsFromSpec)

/-- ITS FALSE NEIGHBOUR: 'it returns false'. Refute it at one input. -/
def fnInsFromWrong : ChangeSpec := { name := "fnInsFrom", fn := fun _ => fun
  | [d] => { results := [.lit (.bool false)], args := [d] }
  | _ => none }
def FnInsFromWrongFalsely : Prop := fnInsFromRow.holds Try.pinned (OpenSpec.ofChange fnInsFromWrong)

/-- 'laws.FnInsKernel': WHATEVER THE INPUT: true; the input reads as it did. -/
def fnInsKernelSpec : ChangeSpec := { name := "fnInsKernel", fn := fun _ => fun
  | [d] => { results := [.lit (.bool true)], args := [d] }
  | _ => none }
def fnInsKernelRow : OpenClaim := { program := "ytfgfekkengennaa", sum := "45f95c38c8c1a1ba1a342485a1b5079e827026d597ce4f33a1b71fa10160c501", func := "loop.example/guesthouse/laws.FnInsKernel", spec := "fnInsKernel", apart := false }
def FnInsKernelSaid : Prop := fnInsKernelRow.holds Try.pinned (OpenSpec.ofChange fnInsKernelSpec)

/-- ITS FALSE NEIGHBOUR: 'it returns false'. Refute it at one input. -/
def fnInsKernelWrong : ChangeSpec := { name := "fnInsKernel", fn := fun _ => fun
  | [d] => { results := [.lit (.bool false)], args := [d] }
  | _ => none }
def FnInsKernelWrongFalsely : Prop := fnInsKernelRow.holds Try.pinned (OpenSpec.ofChange fnInsKernelWrong)

/-- 'laws.FnExactWordOk': WHATEVER THE INPUT: true; the input reads as it did. -/
def fnExactWordOkSpec : ChangeSpec := { name := "fnExactWordOk", fn := fun _ => fun
  | [d] => { results := [.lit (.bool true)], args := [d] }
  | _ => none }
def fnExactWordOkRow : OpenClaim := { program := "ytfgfekkengennaa", sum := "45f95c38c8c1a1ba1a342485a1b5079e827026d597ce4f33a1b71fa10160c501", func := "loop.example/guesthouse/laws.FnExactWordOk", spec := "fnExactWordOk", apart := false }
def FnExactWordOkSaid : Prop := fnExactWordOkRow.holds Try.pinned (OpenSpec.ofChange fnExactWordOkSpec)

/-- ITS FALSE NEIGHBOUR: 'it returns false'. Refute it at one input. -/
def fnExactWordOkWrong : ChangeSpec := { name := "fnExactWordOk", fn := fun _ => fun
  | [d] => { results := [.lit (.bool false)], args := [d] }
  | _ => none }
def FnExactWordOkWrongFalsely : Prop := fnExactWordOkRow.holds Try.pinned (OpenSpec.ofChange fnExactWordOkWrong)

/-- 'laws.FnExactInsOk': WHATEVER THE INPUT: true; the input reads as it did. -/
def fnExactInsOkSpec : ChangeSpec := { name := "fnExactInsOk", fn := fun _ => fun
  | [d] => { results := [.lit (.bool true)], args := [d] }
  | _ => none }
def fnExactInsOkRow : OpenClaim := { program := "ytfgfekkengennaa", sum := "45f95c38c8c1a1ba1a342485a1b5079e827026d597ce4f33a1b71fa10160c501", func := "loop.example/guesthouse/laws.FnExactInsOk", spec := "fnExactInsOk", apart := false }
def FnExactInsOkSaid : Prop := fnExactInsOkRow.holds Try.pinned (OpenSpec.ofChange fnExactInsOkSpec)

/-- ITS FALSE NEIGHBOUR: 'it returns false'. Refute it at one input. -/
def fnExactInsOkWrong : ChangeSpec := { name := "fnExactInsOk", fn := fun _ => fun
  | [d] => { results := [.lit (.bool false)], args := [d] }
  | _ => none }
def FnExactInsOkWrongFalsely : Prop := fnExactInsOkRow.holds Try.pinned (OpenSpec.ofChange fnExactInsOkWrong)

/-- 'laws.FnExactInsWord': WHATEVER THE INPUT: true; the input reads as it did. -/
def fnExactInsWordSpec : ChangeSpec := { name := "fnExactInsWord", fn := fun _ => fun
  | [d] => { results := [.lit (.bool true)], args := [d] }
  | _ => none }
def fnExactInsWordRow : OpenClaim := { program := "ytfgfekkengennaa", sum := "45f95c38c8c1a1ba1a342485a1b5079e827026d597ce4f33a1b71fa10160c501", func := "loop.example/guesthouse/laws.FnExactInsWord", spec := "fnExactInsWord", apart := false }
def FnExactInsWordSaid : Prop := fnExactInsWordRow.holds Try.pinned (OpenSpec.ofChange fnExactInsWordSpec)

/-- ITS FALSE NEIGHBOUR: 'it returns false'. Refute it at one input. -/
def fnExactInsWordWrong : ChangeSpec := { name := "fnExactInsWord", fn := fun _ => fun
  | [d] => { results := [.lit (.bool false)], args := [d] }
  | _ => none }
def FnExactInsWordWrongFalsely : Prop := fnExactInsWordRow.holds Try.pinned (OpenSpec.ofChange fnExactInsWordWrong)

/-- 'laws.FnExactInsFrom': WHATEVER THE INPUT: true; the input reads as it did. -/
def fnExactInsFromSpec : ChangeSpec := { name := "fnExactInsFrom", fn := fun _ => fun
  | [d] => { results := [.lit (.bool true)], args := [d] }
  | _ => none }
def fnExactInsFromRow : OpenClaim := { program := "ytfgfekkengennaa", sum := "45f95c38c8c1a1ba1a342485a1b5079e827026d597ce4f33a1b71fa10160c501", func := "loop.example/guesthouse/laws.FnExactInsFrom", spec := "fnExactInsFrom", apart := false }
def FnExactInsFromSaid : Prop := fnExactInsFromRow.holds Try.pinned (OpenSpec.ofChange fnExactInsFromSpec)

/-- ITS FALSE NEIGHBOUR: 'it returns false'. Refute it at one input. -/
def fnExactInsFromWrong : ChangeSpec := { name := "fnExactInsFrom", fn := fun _ => fun
  | [d] => { results := [.lit (.bool false)], args := [d] }
  | _ => none }
def FnExactInsFromWrongFalsely : Prop := fnExactInsFromRow.holds Try.pinned (OpenSpec.ofChange fnExactInsFromWrong)

/-- 'laws.FnExactInsKernel': WHATEVER THE INPUT: true; the input reads as it did. -/
def fnExactInsKernelSpec : ChangeSpec := { name := "fnExactInsKernel", fn := fun _ => fun
  | [d] => { results := [.lit (.bool true)], args := [d] }
  | _ => none }
def fnExactInsKernelRow : OpenClaim := { program := "ytfgfekkengennaa", sum := "45f95c38c8c1a1ba1a342485a1b5079e827026d597ce4f33a1b71fa10160c501", func := "loop.example/guesthouse/laws.FnExactInsKernel", spec := "fnExactInsKernel", apart := false }
def FnExactInsKernelSaid : Prop := fnExactInsKernelRow.holds Try.pinned (OpenSpec.ofChange fnExactInsKernelSpec)

/-- ITS FALSE NEIGHBOUR: 'it returns false'. Refute it at one input. -/
def fnExactInsKernelWrong : ChangeSpec := { name := "fnExactInsKernel", fn := fun _ => fun
  | [d] => { results := [.lit (.bool false)], args := [d] }
  | _ => none }
def FnExactInsKernelWrongFalsely : Prop := fnExactInsKernelRow.holds Try.pinned (OpenSpec.ofChange fnExactInsKernelWrong)

/- THE SECOND FORM. 'bulk': how many values and letters a reading holds, each counted each time it is reached (what is shared counts as often as it is met; a slice's spare places count too). A statement '..UptoSaid' is the law's where the arguments, and the package variables that the reading takes, are together of bulk at most 1048576: NARROWER than '..Said'. Prove '..Said' where nothing that the law and all that it calls make is longer than what came in: it says more and counts as full. Else prove '..UptoSaid'. A law counts once. -/
mutual
def uptoBulk {H : Type} : DataW H → Nat
  | .lit (.string bytes) => bytes.length + 1
  | .lit _ => 1
  | .nil => 1
  | .ptr d => uptoBulk d + 1
  | .slice elems spare => uptoBulkAll elems + uptoBulkAll spare + 1
  | .agg parts => uptoBulkAll parts + 1
  | .iface _ d => uptoBulk d + 1
  | .map entries => uptoBulkEntries entries + 1
  | .held _ => 1
def uptoBulkAll {H : Type} : List (DataW H) → Nat
  | [] => 0
  | d :: r => uptoBulk d + uptoBulkAll r
def uptoBulkEntries {H : Type} : List (Lit × DataW H) → Nat
  | [] => 0
  | x :: r => uptoBulkEntry x + uptoBulkEntries r
def uptoBulkEntry {H : Type} : Lit × DataW H → Nat
  | (.string bytes, d) => bytes.length + uptoBulk d + 1
  | (_, d) => uptoBulk d + 1
 end
def uptoSmall : (H : Type) → List (DataW H) → Bool := fun _ ds => decide (uptoBulkAll ds ≤ 1048576)
def OpenSpec.upto (s : _root_.Go.ChangeSpec) : _root_.Go.OpenSpec := { _root_.Go.OpenSpec.ofChange s with cond := some uptoSmall }

/-- 'laws.FnWordOk', WHERE WHAT IT READS IS OF BULK AT MOST 1048576: true; the input reads as it did. -/
def fnWordOkUptoRow : OpenClaim := { program := "ytfgfekkengennaa", sum := "45f95c38c8c1a1ba1a342485a1b5079e827026d597ce4f33a1b71fa10160c501", func := "loop.example/guesthouse/laws.FnWordOk", spec := "fnWordOk", apart := false, narrowed := true }
def FnWordOkUptoSaid : Prop := fnWordOkUptoRow.holds Try.pinned (OpenSpec.upto fnWordOkSpec)

/-- 'laws.FnInsOk', WHERE WHAT IT READS IS OF BULK AT MOST 1048576: true; the input reads as it did. -/
def fnInsOkUptoRow : OpenClaim := { program := "ytfgfekkengennaa", sum := "45f95c38c8c1a1ba1a342485a1b5079e827026d597ce4f33a1b71fa10160c501", func := "loop.example/guesthouse/laws.FnInsOk", spec := "fnInsOk", apart := false, narrowed := true }
def FnInsOkUptoSaid : Prop := fnInsOkUptoRow.holds Try.pinned (OpenSpec.upto fnInsOkSpec)

/-- 'laws.FnInsWord', WHERE WHAT IT READS IS OF BULK AT MOST 1048576: true; the input reads as it did. -/
def fnInsWordUptoRow : OpenClaim := { program := "ytfgfekkengennaa", sum := "45f95c38c8c1a1ba1a342485a1b5079e827026d597ce4f33a1b71fa10160c501", func := "loop.example/guesthouse/laws.FnInsWord", spec := "fnInsWord", apart := false, narrowed := true }
def FnInsWordUptoSaid : Prop := fnInsWordUptoRow.holds Try.pinned (OpenSpec.upto fnInsWordSpec)

/-- 'laws.FnInsFrom', WHERE WHAT IT READS IS OF BULK AT MOST 1048576: true; the input reads as it did. -/
def fnInsFromUptoRow : OpenClaim := { program := "ytfgfekkengennaa", sum := "45f95c38c8c1a1ba1a342485a1b5079e827026d597ce4f33a1b71fa10160c501", func := "loop.example/guesthouse/laws.FnInsFrom", spec := "fnInsFrom", apart := false, narrowed := true }
def FnInsFromUptoSaid : Prop := fnInsFromUptoRow.holds Try.pinned (OpenSpec.upto fnInsFromSpec)

/-- 'laws.FnInsKernel', WHERE WHAT IT READS IS OF BULK AT MOST 1048576: true; the input reads as it did. -/
def fnInsKernelUptoRow : OpenClaim := { program := "ytfgfekkengennaa", sum := "45f95c38c8c1a1ba1a342485a1b5079e827026d597ce4f33a1b71fa10160c501", func := "loop.example/guesthouse/laws.FnInsKernel", spec := "fnInsKernel", apart := false, narrowed := true }
def FnInsKernelUptoSaid : Prop := fnInsKernelUptoRow.holds Try.pinned (OpenSpec.upto fnInsKernelSpec)

/-- 'laws.FnExactWordOk', WHERE WHAT IT READS IS OF BULK AT MOST 1048576: true; the input reads as it did. -/
def fnExactWordOkUptoRow : OpenClaim := { program := "ytfgfekkengennaa", sum := "45f95c38c8c1a1ba1a342485a1b5079e827026d597ce4f33a1b71fa10160c501", func := "loop.example/guesthouse/laws.FnExactWordOk", spec := "fnExactWordOk", apart := false, narrowed := true }
def FnExactWordOkUptoSaid : Prop := fnExactWordOkUptoRow.holds Try.pinned (OpenSpec.upto fnExactWordOkSpec)

/-- 'laws.FnExactInsOk', WHERE WHAT IT READS IS OF BULK AT MOST 1048576: true; the input reads as it did. -/
def fnExactInsOkUptoRow : OpenClaim := { program := "ytfgfekkengennaa", sum := "45f95c38c8c1a1ba1a342485a1b5079e827026d597ce4f33a1b71fa10160c501", func := "loop.example/guesthouse/laws.FnExactInsOk", spec := "fnExactInsOk", apart := false, narrowed := true }
def FnExactInsOkUptoSaid : Prop := fnExactInsOkUptoRow.holds Try.pinned (OpenSpec.upto fnExactInsOkSpec)

/-- 'laws.FnExactInsWord', WHERE WHAT IT READS IS OF BULK AT MOST 1048576: true; the input reads as it did. -/
def fnExactInsWordUptoRow : OpenClaim := { program := "ytfgfekkengennaa", sum := "45f95c38c8c1a1ba1a342485a1b5079e827026d597ce4f33a1b71fa10160c501", func := "loop.example/guesthouse/laws.FnExactInsWord", spec := "fnExactInsWord", apart := false, narrowed := true }
def FnExactInsWordUptoSaid : Prop := fnExactInsWordUptoRow.holds Try.pinned (OpenSpec.upto fnExactInsWordSpec)

/-- 'laws.FnExactInsFrom', WHERE WHAT IT READS IS OF BULK AT MOST 1048576: true; the input reads as it did. -/
def fnExactInsFromUptoRow : OpenClaim := { program := "ytfgfekkengennaa", sum := "45f95c38c8c1a1ba1a342485a1b5079e827026d597ce4f33a1b71fa10160c501", func := "loop.example/guesthouse/laws.FnExactInsFrom", spec := "fnExactInsFrom", apart := false, narrowed := true }
def FnExactInsFromUptoSaid : Prop := fnExactInsFromUptoRow.holds Try.pinned (OpenSpec.upto fnExactInsFromSpec)

/-- 'laws.FnExactInsKernel', WHERE WHAT IT READS IS OF BULK AT MOST 1048576: true; the input reads as it did. -/
def fnExactInsKernelUptoRow : OpenClaim := { program := "ytfgfekkengennaa", sum := "45f95c38c8c1a1ba1a342485a1b5079e827026d597ce4f33a1b71fa10160c501", func := "loop.example/guesthouse/laws.FnExactInsKernel", spec := "fnExactInsKernel", apart := false, narrowed := true }
def FnExactInsKernelUptoSaid : Prop := fnExactInsKernelUptoRow.holds Try.pinned (OpenSpec.upto fnExactInsKernelSpec)

end Rows
end Go.Proofs.Ytfgfekkengennaa
