/-
  No cell of these rows narrows 'for every input' (looked for: loops, veiled, ifaces, maps, wideKeys, modest, calm, conditions, laid).
  DERIVED. THE GIVEN ROWS OF THIS SEAT. 12 by the template 'for every input the law returns true; each argument reads behind the call as it read before'; 0 by the template 'total and deterministic' (their statements: YthbefahhpikcaaaTotals.lean).
  GIVEN WITH THE SEED: the statements are not yours to turn. If you find one false, say at which input.
  Laid BY PROGRAM, IN A SANDBOX (cutbox-rows.mjs): the forced cells as the released guide's own fill.sh prints them over the translation f44c38f4da988954… (all of the seat's roots in one cut). By AI agents, Wed Nov 11 2026. No macro, syntax, notation, axiom, sorry.
-/
import Derived.Test.YthbefahhpikcaaaChecked
import GoSem.Claim
import GoSem.ClaimJoined
import GoSem.ClaimMapViews
import Derived.JoinedTies
import Derived.KernelRfl
namespace Go.Proofs.Ythbefahhpikcaaa
/- THE CELL 'sum', in the pinned program and in every row, IS THE sha256 OF THE DUMP (.gsa) THAT YthbefahhpikcaaaProg.lean LOADS. Nothing in Lean hashes anything: it is a label: what it is worth is what the hold of that sum in a sandbox is worth. -/
noncomputable def Try.pinned : Pinned := { name := "ythbefahhpikcaaa", sum := "f44c38f4da988954c668efb8375a99b6e5fc0901637d3e437b92ae243237827b", checked := Try.checked }
namespace Rows
def none {H : Type} : Left H := { results := [], args := [] }

/-- 'laws.FnMemOk': WHATEVER THE INPUT: true; the input reads as it did. -/
def fnMemOkSpec : ChangeSpec := { name := "fnMemOk", fn := fun _ => fun
  | [d] => { results := [.lit (.bool true)], args := [d] }
  | _ => none }
def fnMemOkRow : OpenClaim := { program := "ythbefahhpikcaaa", sum := "f44c38f4da988954c668efb8375a99b6e5fc0901637d3e437b92ae243237827b", func := "loop.example/guesthouse/laws.FnMemOk", spec := "fnMemOk", apart := false }
def FnMemOkSaid : Prop := fnMemOkRow.holds Try.pinned (OpenSpec.ofChange fnMemOkSpec)

/-- ITS FALSE NEIGHBOUR: 'it returns false'. Refute it at one input. -/
def fnMemOkWrong : ChangeSpec := { name := "fnMemOk", fn := fun _ => fun
  | [d] => { results := [.lit (.bool false)], args := [d] }
  | _ => none }
def FnMemOkWrongFalsely : Prop := fnMemOkRow.holds Try.pinned (OpenSpec.ofChange fnMemOkWrong)

/-- 'laws.FnEntryWord': WHATEVER THE INPUT: true; the input reads as it did. -/
def fnEntryWordSpec : ChangeSpec := { name := "fnEntryWord", fn := fun _ => fun
  | [d] => { results := [.lit (.bool true)], args := [d] }
  | _ => none }
def fnEntryWordRow : OpenClaim := { program := "ythbefahhpikcaaa", sum := "f44c38f4da988954c668efb8375a99b6e5fc0901637d3e437b92ae243237827b", func := "loop.example/guesthouse/laws.FnEntryWord", spec := "fnEntryWord", apart := false }
def FnEntryWordSaid : Prop := fnEntryWordRow.holds Try.pinned (OpenSpec.ofChange fnEntryWordSpec)

/-- ITS FALSE NEIGHBOUR: 'it returns false'. Refute it at one input. -/
def fnEntryWordWrong : ChangeSpec := { name := "fnEntryWord", fn := fun _ => fun
  | [d] => { results := [.lit (.bool false)], args := [d] }
  | _ => none }
def FnEntryWordWrongFalsely : Prop := fnEntryWordRow.holds Try.pinned (OpenSpec.ofChange fnEntryWordWrong)

/-- 'laws.FnEntryFrom': WHATEVER THE INPUT: true; the input reads as it did. -/
def fnEntryFromSpec : ChangeSpec := { name := "fnEntryFrom", fn := fun _ => fun
  | [d] => { results := [.lit (.bool true)], args := [d] }
  | _ => none }
def fnEntryFromRow : OpenClaim := { program := "ythbefahhpikcaaa", sum := "f44c38f4da988954c668efb8375a99b6e5fc0901637d3e437b92ae243237827b", func := "loop.example/guesthouse/laws.FnEntryFrom", spec := "fnEntryFrom", apart := false }
def FnEntryFromSaid : Prop := fnEntryFromRow.holds Try.pinned (OpenSpec.ofChange fnEntryFromSpec)

/-- ITS FALSE NEIGHBOUR: 'it returns false'. Refute it at one input. -/
def fnEntryFromWrong : ChangeSpec := { name := "fnEntryFrom", fn := fun _ => fun
  | [d] => { results := [.lit (.bool false)], args := [d] }
  | _ => none }
def FnEntryFromWrongFalsely : Prop := fnEntryFromRow.holds Try.pinned (OpenSpec.ofChange fnEntryFromWrong)

/-- 'laws.FnWalk': WHATEVER THE INPUT: true; the input reads as it did. -/
def fnWalkSpec : ChangeSpec := { name := "fnWalk", fn := fun _ => fun
  | [d] => { results := [.lit (.bool true)], args := [d] }
  | _ => none }
def fnWalkRow : OpenClaim := { program := "ythbefahhpikcaaa", sum := "f44c38f4da988954c668efb8375a99b6e5fc0901637d3e437b92ae243237827b", func := "loop.example/guesthouse/laws.FnWalk", spec := "fnWalk", apart := false }
def FnWalkSaid : Prop := fnWalkRow.holds Try.pinned (OpenSpec.ofChange fnWalkSpec)

/-- ITS FALSE NEIGHBOUR: 'it returns false'. Refute it at one input. -/
def fnWalkWrong : ChangeSpec := { name := "fnWalk", fn := fun _ => fun
  | [d] => { results := [.lit (.bool false)], args := [d] }
  | _ => none }
def FnWalkWrongFalsely : Prop := fnWalkRow.holds Try.pinned (OpenSpec.ofChange fnWalkWrong)

/-- 'laws.FnCoreOk': WHATEVER THE INPUT: true; the input reads as it did. -/
def fnCoreOkSpec : ChangeSpec := { name := "fnCoreOk", fn := fun _ => fun
  | [d] => { results := [.lit (.bool true)], args := [d] }
  | _ => none }
def fnCoreOkRow : OpenClaim := { program := "ythbefahhpikcaaa", sum := "f44c38f4da988954c668efb8375a99b6e5fc0901637d3e437b92ae243237827b", func := "loop.example/guesthouse/laws.FnCoreOk", spec := "fnCoreOk", apart := false }
def FnCoreOkSaid : Prop := fnCoreOkRow.holds Try.pinned (OpenSpec.ofChange fnCoreOkSpec)

/-- ITS FALSE NEIGHBOUR: 'it returns false'. Refute it at one input. -/
def fnCoreOkWrong : ChangeSpec := { name := "fnCoreOk", fn := fun _ => fun
  | [d] => { results := [.lit (.bool false)], args := [d] }
  | _ => none }
def FnCoreOkWrongFalsely : Prop := fnCoreOkRow.holds Try.pinned (OpenSpec.ofChange fnCoreOkWrong)

/-- 'laws.FnBareOk': WHATEVER THE INPUT: true; the input reads as it did. -/
def fnBareOkSpec : ChangeSpec := { name := "fnBareOk", fn := fun _ => fun
  | [d] => { results := [.lit (.bool true)], args := [d] }
  | _ => none }
def fnBareOkRow : OpenClaim := { program := "ythbefahhpikcaaa", sum := "f44c38f4da988954c668efb8375a99b6e5fc0901637d3e437b92ae243237827b", func := "loop.example/guesthouse/laws.FnBareOk", spec := "fnBareOk", apart := false }
def FnBareOkSaid : Prop := fnBareOkRow.holds Try.pinned (OpenSpec.ofChange fnBareOkSpec)

/-- ITS FALSE NEIGHBOUR: 'it returns false'. Refute it at one input. -/
def fnBareOkWrong : ChangeSpec := { name := "fnBareOk", fn := fun _ => fun
  | [d] => { results := [.lit (.bool false)], args := [d] }
  | _ => none }
def FnBareOkWrongFalsely : Prop := fnBareOkRow.holds Try.pinned (OpenSpec.ofChange fnBareOkWrong)

/-- 'laws.FnBareStep': WHATEVER THE INPUT: true; the input reads as it did. -/
def fnBareStepSpec : ChangeSpec := { name := "fnBareStep", fn := fun _ => fun
  | [d] => { results := [.lit (.bool true)], args := [d] }
  | _ => none }
def fnBareStepRow : OpenClaim := { program := "ythbefahhpikcaaa", sum := "f44c38f4da988954c668efb8375a99b6e5fc0901637d3e437b92ae243237827b", func := "loop.example/guesthouse/laws.FnBareStep", spec := "fnBareStep", apart := false }
def FnBareStepSaid : Prop := fnBareStepRow.holds Try.pinned (OpenSpec.ofChange fnBareStepSpec)

/-- ITS FALSE NEIGHBOUR: 'it returns false'. Refute it at one input. -/
def fnBareStepWrong : ChangeSpec := { name := "fnBareStep", fn := fun _ => fun
  | [d] => { results := [.lit (.bool false)], args := [d] }
  | _ => none }
def FnBareStepWrongFalsely : Prop := fnBareStepRow.holds Try.pinned (OpenSpec.ofChange fnBareStepWrong)

/-- 'laws.FnBareRun': WHATEVER THE INPUT: true; the input reads as it did. -/
def fnBareRunSpec : ChangeSpec := { name := "fnBareRun", fn := fun _ => fun
  | [d] => { results := [.lit (.bool true)], args := [d] }
  | _ => none }
def fnBareRunRow : OpenClaim := { program := "ythbefahhpikcaaa", sum := "f44c38f4da988954c668efb8375a99b6e5fc0901637d3e437b92ae243237827b", func := "loop.example/guesthouse/laws.FnBareRun", spec := "fnBareRun", apart := false }
def FnBareRunSaid : Prop := fnBareRunRow.holds Try.pinned (OpenSpec.ofChange fnBareRunSpec)

/-- ITS FALSE NEIGHBOUR: 'it returns false'. Refute it at one input. -/
def fnBareRunWrong : ChangeSpec := { name := "fnBareRun", fn := fun _ => fun
  | [d] => { results := [.lit (.bool false)], args := [d] }
  | _ => none }
def FnBareRunWrongFalsely : Prop := fnBareRunRow.holds Try.pinned (OpenSpec.ofChange fnBareRunWrong)

/-- 'laws.FnExactCoreOk': WHATEVER THE INPUT: true; the input reads as it did. -/
def fnExactCoreOkSpec : ChangeSpec := { name := "fnExactCoreOk", fn := fun _ => fun
  | [d] => { results := [.lit (.bool true)], args := [d] }
  | _ => none }
def fnExactCoreOkRow : OpenClaim := { program := "ythbefahhpikcaaa", sum := "f44c38f4da988954c668efb8375a99b6e5fc0901637d3e437b92ae243237827b", func := "loop.example/guesthouse/laws.FnExactCoreOk", spec := "fnExactCoreOk", apart := false }
def FnExactCoreOkSaid : Prop := fnExactCoreOkRow.holds Try.pinned (OpenSpec.ofChange fnExactCoreOkSpec)

/-- ITS FALSE NEIGHBOUR: 'it returns false'. Refute it at one input. -/
def fnExactCoreOkWrong : ChangeSpec := { name := "fnExactCoreOk", fn := fun _ => fun
  | [d] => { results := [.lit (.bool false)], args := [d] }
  | _ => none }
def FnExactCoreOkWrongFalsely : Prop := fnExactCoreOkRow.holds Try.pinned (OpenSpec.ofChange fnExactCoreOkWrong)

/-- 'laws.FnExactBareOk': WHATEVER THE INPUT: true; the input reads as it did. -/
def fnExactBareOkSpec : ChangeSpec := { name := "fnExactBareOk", fn := fun _ => fun
  | [d] => { results := [.lit (.bool true)], args := [d] }
  | _ => none }
def fnExactBareOkRow : OpenClaim := { program := "ythbefahhpikcaaa", sum := "f44c38f4da988954c668efb8375a99b6e5fc0901637d3e437b92ae243237827b", func := "loop.example/guesthouse/laws.FnExactBareOk", spec := "fnExactBareOk", apart := false }
def FnExactBareOkSaid : Prop := fnExactBareOkRow.holds Try.pinned (OpenSpec.ofChange fnExactBareOkSpec)

/-- ITS FALSE NEIGHBOUR: 'it returns false'. Refute it at one input. -/
def fnExactBareOkWrong : ChangeSpec := { name := "fnExactBareOk", fn := fun _ => fun
  | [d] => { results := [.lit (.bool false)], args := [d] }
  | _ => none }
def FnExactBareOkWrongFalsely : Prop := fnExactBareOkRow.holds Try.pinned (OpenSpec.ofChange fnExactBareOkWrong)

/-- 'laws.FnExactBareStep': WHATEVER THE INPUT: true; the input reads as it did. -/
def fnExactBareStepSpec : ChangeSpec := { name := "fnExactBareStep", fn := fun _ => fun
  | [d] => { results := [.lit (.bool true)], args := [d] }
  | _ => none }
def fnExactBareStepRow : OpenClaim := { program := "ythbefahhpikcaaa", sum := "f44c38f4da988954c668efb8375a99b6e5fc0901637d3e437b92ae243237827b", func := "loop.example/guesthouse/laws.FnExactBareStep", spec := "fnExactBareStep", apart := false }
def FnExactBareStepSaid : Prop := fnExactBareStepRow.holds Try.pinned (OpenSpec.ofChange fnExactBareStepSpec)

/-- ITS FALSE NEIGHBOUR: 'it returns false'. Refute it at one input. -/
def fnExactBareStepWrong : ChangeSpec := { name := "fnExactBareStep", fn := fun _ => fun
  | [d] => { results := [.lit (.bool false)], args := [d] }
  | _ => none }
def FnExactBareStepWrongFalsely : Prop := fnExactBareStepRow.holds Try.pinned (OpenSpec.ofChange fnExactBareStepWrong)

/-- 'laws.FnExactBareRun': WHATEVER THE INPUT: true; the input reads as it did. -/
def fnExactBareRunSpec : ChangeSpec := { name := "fnExactBareRun", fn := fun _ => fun
  | [d1, d2] => { results := [.lit (.bool true)], args := [d1, d2] }
  | _ => none }
def fnExactBareRunRow : OpenClaim := { program := "ythbefahhpikcaaa", sum := "f44c38f4da988954c668efb8375a99b6e5fc0901637d3e437b92ae243237827b", func := "loop.example/guesthouse/laws.FnExactBareRun", spec := "fnExactBareRun", apart := false }
def FnExactBareRunSaid : Prop := fnExactBareRunRow.holds Try.pinned (OpenSpec.ofChange fnExactBareRunSpec)

/-- ITS FALSE NEIGHBOUR: 'it returns false'. Refute it at one input. -/
def fnExactBareRunWrong : ChangeSpec := { name := "fnExactBareRun", fn := fun _ => fun
  | [d1, d2] => { results := [.lit (.bool false)], args := [d1, d2] }
  | _ => none }
def FnExactBareRunWrongFalsely : Prop := fnExactBareRunRow.holds Try.pinned (OpenSpec.ofChange fnExactBareRunWrong)

/- THE SECOND FORM. 'bulk': how many values and letters a reading holds, each counted each time it is reached (what is shared counts as often as it is met; a slice's spare places count too). A statement '..UptoSaid' is the law's where the arguments, and the package variables that the reading takes, are together of bulk at most 1048576: NARROWER than '..Said'. Prove '..Said' where nothing that the law and all that it calls make is longer than what came in: it says more and counts as full. Else prove '..UptoSaid'. A law counts once. -/
mutual
def uptoBulk {H : Type} : DataW H → Nat
  | .lit (.string bytes) => bytes.length + 1
  | .lit _ => 1
  | .nil => 1
  | .ptr d => uptoBulk d + 1
  | .slice elems spare => uptoBulkAll elems + uptoBulkAll spare + 1
  | .agg parts => uptoBulkAll parts + 1
  | .iface _ d => uptoBulk d + 1
  | .map entries => uptoBulkEntries entries + 1
  | .held _ => 1
def uptoBulkAll {H : Type} : List (DataW H) → Nat
  | [] => 0
  | d :: r => uptoBulk d + uptoBulkAll r
def uptoBulkEntries {H : Type} : List (Lit × DataW H) → Nat
  | [] => 0
  | x :: r => uptoBulkEntry x + uptoBulkEntries r
def uptoBulkEntry {H : Type} : Lit × DataW H → Nat
  | (.string bytes, d) => bytes.length + uptoBulk d + 1
  | (_, d) => uptoBulk d + 1
 end
def uptoSmall : (H : Type) → List (DataW H) → Bool := fun _ ds => decide (uptoBulkAll ds ≤ 1048576)
def OpenSpec.upto (s : _root_.Go.ChangeSpec) : _root_.Go.OpenSpec := { _root_.Go.OpenSpec.ofChange s with cond := some uptoSmall }

/-- 'laws.FnMemOk', WHERE WHAT IT READS IS OF BULK AT MOST 1048576: true; the input reads as it did. -/
def fnMemOkUptoRow : OpenClaim := { program := "ythbefahhpikcaaa", sum := "f44c38f4da988954c668efb8375a99b6e5fc0901637d3e437b92ae243237827b", func := "loop.example/guesthouse/laws.FnMemOk", spec := "fnMemOk", apart := false, narrowed := true }
def FnMemOkUptoSaid : Prop := fnMemOkUptoRow.holds Try.pinned (OpenSpec.upto fnMemOkSpec)

/-- 'laws.FnEntryWord', WHERE WHAT IT READS IS OF BULK AT MOST 1048576: true; the input reads as it did. -/
def fnEntryWordUptoRow : OpenClaim := { program := "ythbefahhpikcaaa", sum := "f44c38f4da988954c668efb8375a99b6e5fc0901637d3e437b92ae243237827b", func := "loop.example/guesthouse/laws.FnEntryWord", spec := "fnEntryWord", apart := false, narrowed := true }
def FnEntryWordUptoSaid : Prop := fnEntryWordUptoRow.holds Try.pinned (OpenSpec.upto fnEntryWordSpec)

/-- 'laws.FnEntryFrom', WHERE WHAT IT READS IS OF BULK AT MOST 1048576: true; the input reads as it did. -/
def fnEntryFromUptoRow : OpenClaim := { program := "ythbefahhpikcaaa", sum := "f44c38f4da988954c668efb8375a99b6e5fc0901637d3e437b92ae243237827b", func := "loop.example/guesthouse/laws.FnEntryFrom", spec := "fnEntryFrom", apart := false, narrowed := true }
def FnEntryFromUptoSaid : Prop := fnEntryFromUptoRow.holds Try.pinned (OpenSpec.upto fnEntryFromSpec)

/-- 'laws.FnWalk', WHERE WHAT IT READS IS OF BULK AT MOST 1048576: true; the input reads as it did. -/
def fnWalkUptoRow : OpenClaim := { program := "ythbefahhpikcaaa", sum := "f44c38f4da988954c668efb8375a99b6e5fc0901637d3e437b92ae243237827b", func := "loop.example/guesthouse/laws.FnWalk", spec := "fnWalk", apart := false, narrowed := true }
def FnWalkUptoSaid : Prop := fnWalkUptoRow.holds Try.pinned (OpenSpec.upto fnWalkSpec)

/-- 'laws.FnCoreOk', WHERE WHAT IT READS IS OF BULK AT MOST 1048576: true; the input reads as it did. -/
def fnCoreOkUptoRow : OpenClaim := { program := "ythbefahhpikcaaa", sum := "f44c38f4da988954c668efb8375a99b6e5fc0901637d3e437b92ae243237827b", func := "loop.example/guesthouse/laws.FnCoreOk", spec := "fnCoreOk", apart := false, narrowed := true }
def FnCoreOkUptoSaid : Prop := fnCoreOkUptoRow.holds Try.pinned (OpenSpec.upto fnCoreOkSpec)

/-- 'laws.FnBareOk', WHERE WHAT IT READS IS OF BULK AT MOST 1048576: true; the input reads as it did. -/
def fnBareOkUptoRow : OpenClaim := { program := "ythbefahhpikcaaa", sum := "f44c38f4da988954c668efb8375a99b6e5fc0901637d3e437b92ae243237827b", func := "loop.example/guesthouse/laws.FnBareOk", spec := "fnBareOk", apart := false, narrowed := true }
def FnBareOkUptoSaid : Prop := fnBareOkUptoRow.holds Try.pinned (OpenSpec.upto fnBareOkSpec)

/-- 'laws.FnBareStep', WHERE WHAT IT READS IS OF BULK AT MOST 1048576: true; the input reads as it did. -/
def fnBareStepUptoRow : OpenClaim := { program := "ythbefahhpikcaaa", sum := "f44c38f4da988954c668efb8375a99b6e5fc0901637d3e437b92ae243237827b", func := "loop.example/guesthouse/laws.FnBareStep", spec := "fnBareStep", apart := false, narrowed := true }
def FnBareStepUptoSaid : Prop := fnBareStepUptoRow.holds Try.pinned (OpenSpec.upto fnBareStepSpec)

/-- 'laws.FnBareRun', WHERE WHAT IT READS IS OF BULK AT MOST 1048576: true; the input reads as it did. -/
def fnBareRunUptoRow : OpenClaim := { program := "ythbefahhpikcaaa", sum := "f44c38f4da988954c668efb8375a99b6e5fc0901637d3e437b92ae243237827b", func := "loop.example/guesthouse/laws.FnBareRun", spec := "fnBareRun", apart := false, narrowed := true }
def FnBareRunUptoSaid : Prop := fnBareRunUptoRow.holds Try.pinned (OpenSpec.upto fnBareRunSpec)

/-- 'laws.FnExactCoreOk', WHERE WHAT IT READS IS OF BULK AT MOST 1048576: true; the input reads as it did. -/
def fnExactCoreOkUptoRow : OpenClaim := { program := "ythbefahhpikcaaa", sum := "f44c38f4da988954c668efb8375a99b6e5fc0901637d3e437b92ae243237827b", func := "loop.example/guesthouse/laws.FnExactCoreOk", spec := "fnExactCoreOk", apart := false, narrowed := true }
def FnExactCoreOkUptoSaid : Prop := fnExactCoreOkUptoRow.holds Try.pinned (OpenSpec.upto fnExactCoreOkSpec)

/-- 'laws.FnExactBareOk', WHERE WHAT IT READS IS OF BULK AT MOST 1048576: true; the input reads as it did. -/
def fnExactBareOkUptoRow : OpenClaim := { program := "ythbefahhpikcaaa", sum := "f44c38f4da988954c668efb8375a99b6e5fc0901637d3e437b92ae243237827b", func := "loop.example/guesthouse/laws.FnExactBareOk", spec := "fnExactBareOk", apart := false, narrowed := true }
def FnExactBareOkUptoSaid : Prop := fnExactBareOkUptoRow.holds Try.pinned (OpenSpec.upto fnExactBareOkSpec)

/-- 'laws.FnExactBareStep', WHERE WHAT IT READS IS OF BULK AT MOST 1048576: true; the input reads as it did. -/
def fnExactBareStepUptoRow : OpenClaim := { program := "ythbefahhpikcaaa", sum := "f44c38f4da988954c668efb8375a99b6e5fc0901637d3e437b92ae243237827b", func := "loop.example/guesthouse/laws.FnExactBareStep", spec := "fnExactBareStep", apart := false, narrowed := true }
def FnExactBareStepUptoSaid : Prop := fnExactBareStepUptoRow.holds Try.pinned (OpenSpec.upto fnExactBareStepSpec)

/-- 'laws.FnExactBareRun', WHERE WHAT IT READS IS OF BULK AT MOST 1048576: true; the input reads as it did. -/
def fnExactBareRunUptoRow : OpenClaim := { program := "ythbefahhpikcaaa", sum := "f44c38f4da988954c668efb8375a99b6e5fc0901637d3e437b92ae243237827b", func := "loop.example/guesthouse/laws.FnExactBareRun", spec := "fnExactBareRun", apart := false, narrowed := true }
def FnExactBareRunUptoSaid : Prop := fnExactBareRunUptoRow.holds Try.pinned (OpenSpec.upto fnExactBareRunSpec)

end Rows
end Go.Proofs.Ythbefahhpikcaaa
