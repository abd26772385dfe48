/-
  No cell of these rows narrows 'for every input' (looked for: loops, veiled, ifaces, maps, wideKeys, modest, calm, conditions, laid).
  DERIVED. THE GIVEN ROWS OF THIS SEAT. 8 by the template 'for every input the law returns true; each argument reads behind the call as it read before'; 0 by the template 'total and deterministic' (their statements: YtbanbjdcgdmkaaaTotals.lean).
  GIVEN WITH THE SEED: the statements are not yours to turn. If you find one false, say at which input.
  Laid BY PROGRAM, IN A SANDBOX (cutbox-rows.mjs): the forced cells as the released guide's own fill.sh prints them over the translation 7b99195b21eeed23… (all of the seat's roots in one cut). By AI agents, Wed Nov 11 2026. No macro, syntax, notation, axiom, sorry.
-/
import Derived.Test.YtbanbjdcgdmkaaaChecked
import GoSem.Claim
import GoSem.ClaimJoined
import GoSem.ClaimMapViews
import Derived.JoinedTies
import Derived.KernelRfl
namespace Go.Proofs.Ytbanbjdcgdmkaaa
/- THE CELL 'sum', in the pinned program and in every row, IS THE sha256 OF THE DUMP (.gsa) THAT YtbanbjdcgdmkaaaProg.lean LOADS. Nothing in Lean hashes anything: it is a label: what it is worth is what the hold of that sum in a sandbox is worth. -/
noncomputable def Try.pinned : Pinned := { name := "ytbanbjdcgdmkaaa", sum := "7b99195b21eeed238510cd8ab8c16890c5cfa61fc4870307ca3e8702c3ca6e10", checked := Try.checked }
namespace Rows
def none {H : Type} : Left H := { results := [], args := [] }

/-- 'laws.FnBareStep': WHATEVER THE INPUT: true; the input reads as it did. -/
def fnBareStepSpec : ChangeSpec := { name := "fnBareStep", fn := fun _ => fun
  | [d] => { results := [.lit (.bool true)], args := [d] }
  | _ => none }
def fnBareStepRow : OpenClaim := { program := "ytbanbjdcgdmkaaa", sum := "7b99195b21eeed238510cd8ab8c16890c5cfa61fc4870307ca3e8702c3ca6e10", func := "loop.example/guesthouse/laws.FnBareStep", spec := "fnBareStep", apart := false }
def FnBareStepSaid : Prop := fnBareStepRow.holds Try.pinned (OpenSpec.ofChange fnBareStepSpec)

/-- ITS FALSE NEIGHBOUR: 'it returns false'. Refute it at one input. -/
def fnBareStepWrong : ChangeSpec := { name := "fnBareStep", fn := fun _ => fun
  | [d] => { results := [.lit (.bool false)], args := [d] }
  | _ => none }
def FnBareStepWrongFalsely : Prop := fnBareStepRow.holds Try.pinned (OpenSpec.ofChange fnBareStepWrong)

/-- 'laws.FnBareRun': WHATEVER THE INPUT: true; the input reads as it did. -/
def fnBareRunSpec : ChangeSpec := { name := "fnBareRun", fn := fun _ => fun
  | [d] => { results := [.lit (.bool true)], args := [d] }
  | _ => none }
def fnBareRunRow : OpenClaim := { program := "ytbanbjdcgdmkaaa", sum := "7b99195b21eeed238510cd8ab8c16890c5cfa61fc4870307ca3e8702c3ca6e10", func := "loop.example/guesthouse/laws.FnBareRun", spec := "fnBareRun", apart := false }
def FnBareRunSaid : Prop := fnBareRunRow.holds Try.pinned (OpenSpec.ofChange fnBareRunSpec)

/-- ITS FALSE NEIGHBOUR: 'it returns false'. Refute it at one input. -/
def fnBareRunWrong : ChangeSpec := { name := "fnBareRun", fn := fun _ => fun
  | [d] => { results := [.lit (.bool false)], args := [d] }
  | _ => none }
def FnBareRunWrongFalsely : Prop := fnBareRunRow.holds Try.pinned (OpenSpec.ofChange fnBareRunWrong)

/-- 'laws.FnGuestExit': WHATEVER THE INPUT: true; the input reads as it did. -/
def fnGuestExitSpec : ChangeSpec := { name := "fnGuestExit", fn := fun _ => fun
  | [d] => { results := [.lit (.bool true)], args := [d] }
  | _ => none }
def fnGuestExitRow : OpenClaim := { program := "ytbanbjdcgdmkaaa", sum := "7b99195b21eeed238510cd8ab8c16890c5cfa61fc4870307ca3e8702c3ca6e10", func := "loop.example/guesthouse/laws.FnGuestExit", spec := "fnGuestExit", apart := false }
def FnGuestExitSaid : Prop := fnGuestExitRow.holds Try.pinned (OpenSpec.ofChange fnGuestExitSpec)

/-- ITS FALSE NEIGHBOUR: 'it returns false'. Refute it at one input. -/
def fnGuestExitWrong : ChangeSpec := { name := "fnGuestExit", fn := fun _ => fun
  | [d] => { results := [.lit (.bool false)], args := [d] }
  | _ => none }
def FnGuestExitWrongFalsely : Prop := fnGuestExitRow.holds Try.pinned (OpenSpec.ofChange fnGuestExitWrong)

/-- 'laws.FnHostEmulate': WHATEVER THE INPUT: true; the input reads as it did. -/
def fnHostEmulateSpec : ChangeSpec := { name := "fnHostEmulate", fn := fun _ => fun
  | [d] => { results := [.lit (.bool true)], args := [d] }
  | _ => none }
def fnHostEmulateRow : OpenClaim := { program := "ytbanbjdcgdmkaaa", sum := "7b99195b21eeed238510cd8ab8c16890c5cfa61fc4870307ca3e8702c3ca6e10", func := "loop.example/guesthouse/laws.FnHostEmulate", spec := "fnHostEmulate", apart := false }
def FnHostEmulateSaid : Prop := fnHostEmulateRow.holds Try.pinned (OpenSpec.ofChange fnHostEmulateSpec)

/-- ITS FALSE NEIGHBOUR: 'it returns false'. Refute it at one input. -/
def fnHostEmulateWrong : ChangeSpec := { name := "fnHostEmulate", fn := fun _ => fun
  | [d] => { results := [.lit (.bool false)], args := [d] }
  | _ => none }
def FnHostEmulateWrongFalsely : Prop := fnHostEmulateRow.holds Try.pinned (OpenSpec.ofChange fnHostEmulateWrong)

/-- 'laws.FnExactBareStep': WHATEVER THE INPUT: true; the input reads as it did. -/
def fnExactBareStepSpec : ChangeSpec := { name := "fnExactBareStep", fn := fun _ => fun
  | [d] => { results := [.lit (.bool true)], args := [d] }
  | _ => none }
def fnExactBareStepRow : OpenClaim := { program := "ytbanbjdcgdmkaaa", sum := "7b99195b21eeed238510cd8ab8c16890c5cfa61fc4870307ca3e8702c3ca6e10", func := "loop.example/guesthouse/laws.FnExactBareStep", spec := "fnExactBareStep", apart := false }
def FnExactBareStepSaid : Prop := fnExactBareStepRow.holds Try.pinned (OpenSpec.ofChange fnExactBareStepSpec)

/-- ITS FALSE NEIGHBOUR: 'it returns false'. Refute it at one input. -/
def fnExactBareStepWrong : ChangeSpec := { name := "fnExactBareStep", fn := fun _ => fun
  | [d] => { results := [.lit (.bool false)], args := [d] }
  | _ => none }
def FnExactBareStepWrongFalsely : Prop := fnExactBareStepRow.holds Try.pinned (OpenSpec.ofChange fnExactBareStepWrong)

/-- 'laws.FnExactBareRun': WHATEVER THE INPUT: true; the input reads as it did. -/
def fnExactBareRunSpec : ChangeSpec := { name := "fnExactBareRun", fn := fun _ => fun
  | [d1, d2] => { results := [.lit (.bool true)], args := [d1, d2] }
  | _ => none }
def fnExactBareRunRow : OpenClaim := { program := "ytbanbjdcgdmkaaa", sum := "7b99195b21eeed238510cd8ab8c16890c5cfa61fc4870307ca3e8702c3ca6e10", func := "loop.example/guesthouse/laws.FnExactBareRun", spec := "fnExactBareRun", apart := false }
def FnExactBareRunSaid : Prop := fnExactBareRunRow.holds Try.pinned (OpenSpec.ofChange fnExactBareRunSpec)

/-- ITS FALSE NEIGHBOUR: 'it returns false'. Refute it at one input. -/
def fnExactBareRunWrong : ChangeSpec := { name := "fnExactBareRun", fn := fun _ => fun
  | [d1, d2] => { results := [.lit (.bool false)], args := [d1, d2] }
  | _ => none }
def FnExactBareRunWrongFalsely : Prop := fnExactBareRunRow.holds Try.pinned (OpenSpec.ofChange fnExactBareRunWrong)

/-- 'laws.FnExactGuestExit': WHATEVER THE INPUT: true; the input reads as it did. -/
def fnExactGuestExitSpec : ChangeSpec := { name := "fnExactGuestExit", fn := fun _ => fun
  | [d1, d2] => { results := [.lit (.bool true)], args := [d1, d2] }
  | _ => none }
def fnExactGuestExitRow : OpenClaim := { program := "ytbanbjdcgdmkaaa", sum := "7b99195b21eeed238510cd8ab8c16890c5cfa61fc4870307ca3e8702c3ca6e10", func := "loop.example/guesthouse/laws.FnExactGuestExit", spec := "fnExactGuestExit", apart := false }
def FnExactGuestExitSaid : Prop := fnExactGuestExitRow.holds Try.pinned (OpenSpec.ofChange fnExactGuestExitSpec)

/-- ITS FALSE NEIGHBOUR: 'it returns false'. Refute it at one input. -/
def fnExactGuestExitWrong : ChangeSpec := { name := "fnExactGuestExit", fn := fun _ => fun
  | [d1, d2] => { results := [.lit (.bool false)], args := [d1, d2] }
  | _ => none }
def FnExactGuestExitWrongFalsely : Prop := fnExactGuestExitRow.holds Try.pinned (OpenSpec.ofChange fnExactGuestExitWrong)

/-- 'laws.FnExactHostEmulate': WHATEVER THE INPUT: true; the input reads as it did. -/
def fnExactHostEmulateSpec : ChangeSpec := { name := "fnExactHostEmulate", fn := fun _ => fun
  | [d1, d2, d3] => { results := [.lit (.bool true)], args := [d1, d2, d3] }
  | _ => none }
def fnExactHostEmulateRow : OpenClaim := { program := "ytbanbjdcgdmkaaa", sum := "7b99195b21eeed238510cd8ab8c16890c5cfa61fc4870307ca3e8702c3ca6e10", func := "loop.example/guesthouse/laws.FnExactHostEmulate", spec := "fnExactHostEmulate", apart := false }
def FnExactHostEmulateSaid : Prop := fnExactHostEmulateRow.holds Try.pinned (OpenSpec.ofChange fnExactHostEmulateSpec)

/-- ITS FALSE NEIGHBOUR: 'it returns false'. Refute it at one input. -/
def fnExactHostEmulateWrong : ChangeSpec := { name := "fnExactHostEmulate", fn := fun _ => fun
  | [d1, d2, d3] => { results := [.lit (.bool false)], args := [d1, d2, d3] }
  | _ => none }
def FnExactHostEmulateWrongFalsely : Prop := fnExactHostEmulateRow.holds Try.pinned (OpenSpec.ofChange fnExactHostEmulateWrong)

/- THE SECOND FORM. 'bulk': how many values and letters a reading holds, each counted each time it is reached (what is shared counts as often as it is met; a slice's spare places count too). A statement '..UptoSaid' is the law's where the arguments, and the package variables that the reading takes, are together of bulk at most 1048576: NARROWER than '..Said'. Prove '..Said' where nothing that the law and all that it calls make is longer than what came in: it says more and counts as full. Else prove '..UptoSaid'. A law counts once. -/
mutual
def uptoBulk {H : Type} : DataW H → Nat
  | .lit (.string bytes) => bytes.length + 1
  | .lit _ => 1
  | .nil => 1
  | .ptr d => uptoBulk d + 1
  | .slice elems spare => uptoBulkAll elems + uptoBulkAll spare + 1
  | .agg parts => uptoBulkAll parts + 1
  | .iface _ d => uptoBulk d + 1
  | .map entries => uptoBulkEntries entries + 1
  | .held _ => 1
def uptoBulkAll {H : Type} : List (DataW H) → Nat
  | [] => 0
  | d :: r => uptoBulk d + uptoBulkAll r
def uptoBulkEntries {H : Type} : List (Lit × DataW H) → Nat
  | [] => 0
  | x :: r => uptoBulkEntry x + uptoBulkEntries r
def uptoBulkEntry {H : Type} : Lit × DataW H → Nat
  | (.string bytes, d) => bytes.length + uptoBulk d + 1
  | (_, d) => uptoBulk d + 1
 end
def uptoSmall : (H : Type) → List (DataW H) → Bool := fun _ ds => decide (uptoBulkAll ds ≤ 1048576)
def OpenSpec.upto (s : _root_.Go.ChangeSpec) : _root_.Go.OpenSpec := { _root_.Go.OpenSpec.ofChange s with cond := some uptoSmall }

/-- 'laws.FnBareStep', WHERE WHAT IT READS IS OF BULK AT MOST 1048576: true; the input reads as it did. -/
def fnBareStepUptoRow : OpenClaim := { program := "ytbanbjdcgdmkaaa", sum := "7b99195b21eeed238510cd8ab8c16890c5cfa61fc4870307ca3e8702c3ca6e10", func := "loop.example/guesthouse/laws.FnBareStep", spec := "fnBareStep", apart := false, narrowed := true }
def FnBareStepUptoSaid : Prop := fnBareStepUptoRow.holds Try.pinned (OpenSpec.upto fnBareStepSpec)

/-- 'laws.FnBareRun', WHERE WHAT IT READS IS OF BULK AT MOST 1048576: true; the input reads as it did. -/
def fnBareRunUptoRow : OpenClaim := { program := "ytbanbjdcgdmkaaa", sum := "7b99195b21eeed238510cd8ab8c16890c5cfa61fc4870307ca3e8702c3ca6e10", func := "loop.example/guesthouse/laws.FnBareRun", spec := "fnBareRun", apart := false, narrowed := true }
def FnBareRunUptoSaid : Prop := fnBareRunUptoRow.holds Try.pinned (OpenSpec.upto fnBareRunSpec)

/-- 'laws.FnGuestExit', WHERE WHAT IT READS IS OF BULK AT MOST 1048576: true; the input reads as it did. -/
def fnGuestExitUptoRow : OpenClaim := { program := "ytbanbjdcgdmkaaa", sum := "7b99195b21eeed238510cd8ab8c16890c5cfa61fc4870307ca3e8702c3ca6e10", func := "loop.example/guesthouse/laws.FnGuestExit", spec := "fnGuestExit", apart := false, narrowed := true }
def FnGuestExitUptoSaid : Prop := fnGuestExitUptoRow.holds Try.pinned (OpenSpec.upto fnGuestExitSpec)

/-- 'laws.FnHostEmulate', WHERE WHAT IT READS IS OF BULK AT MOST 1048576: true; the input reads as it did. -/
def fnHostEmulateUptoRow : OpenClaim := { program := "ytbanbjdcgdmkaaa", sum := "7b99195b21eeed238510cd8ab8c16890c5cfa61fc4870307ca3e8702c3ca6e10", func := "loop.example/guesthouse/laws.FnHostEmulate", spec := "fnHostEmulate", apart := false, narrowed := true }
def FnHostEmulateUptoSaid : Prop := fnHostEmulateUptoRow.holds Try.pinned (OpenSpec.upto fnHostEmulateSpec)

/-- 'laws.FnExactBareStep', WHERE WHAT IT READS IS OF BULK AT MOST 1048576: true; the input reads as it did. -/
def fnExactBareStepUptoRow : OpenClaim := { program := "ytbanbjdcgdmkaaa", sum := "7b99195b21eeed238510cd8ab8c16890c5cfa61fc4870307ca3e8702c3ca6e10", func := "loop.example/guesthouse/laws.FnExactBareStep", spec := "fnExactBareStep", apart := false, narrowed := true }
def FnExactBareStepUptoSaid : Prop := fnExactBareStepUptoRow.holds Try.pinned (OpenSpec.upto fnExactBareStepSpec)

/-- 'laws.FnExactBareRun', WHERE WHAT IT READS IS OF BULK AT MOST 1048576: true; the input reads as it did. -/
def fnExactBareRunUptoRow : OpenClaim := { program := "ytbanbjdcgdmkaaa", sum := "7b99195b21eeed238510cd8ab8c16890c5cfa61fc4870307ca3e8702c3ca6e10", func := "loop.example/guesthouse/laws.FnExactBareRun", spec := "fnExactBareRun", apart := false, narrowed := true }
def FnExactBareRunUptoSaid : Prop := fnExactBareRunUptoRow.holds Try.pinned (OpenSpec.upto fnExactBareRunSpec)

/-- 'laws.FnExactGuestExit', WHERE WHAT IT READS IS OF BULK AT MOST 1048576: true; the input reads as it did. -/
def fnExactGuestExitUptoRow : OpenClaim := { program := "ytbanbjdcgdmkaaa", sum := "7b99195b21eeed238510cd8ab8c16890c5cfa61fc4870307ca3e8702c3ca6e10", func := "loop.example/guesthouse/laws.FnExactGuestExit", spec := "fnExactGuestExit", apart := false, narrowed := true }
def FnExactGuestExitUptoSaid : Prop := fnExactGuestExitUptoRow.holds Try.pinned (OpenSpec.upto fnExactGuestExitSpec)

/-- 'laws.FnExactHostEmulate', WHERE WHAT IT READS IS OF BULK AT MOST 1048576: true; the input reads as it did. -/
def fnExactHostEmulateUptoRow : OpenClaim := { program := "ytbanbjdcgdmkaaa", sum := "7b99195b21eeed238510cd8ab8c16890c5cfa61fc4870307ca3e8702c3ca6e10", func := "loop.example/guesthouse/laws.FnExactHostEmulate", spec := "fnExactHostEmulate", apart := false, narrowed := true }
def FnExactHostEmulateUptoSaid : Prop := fnExactHostEmulateUptoRow.holds Try.pinned (OpenSpec.upto fnExactHostEmulateSpec)

end Rows
end Go.Proofs.Ytbanbjdcgdmkaaa
