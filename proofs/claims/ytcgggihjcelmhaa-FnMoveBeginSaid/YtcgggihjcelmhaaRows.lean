/-
  No cell of these rows narrows 'for every input' (looked for: loops, veiled, ifaces, maps, wideKeys, modest, calm, conditions, laid).
  DERIVED. THE GIVEN ROWS OF THIS SEAT. 5 by the template 'for every input the law returns true; each argument reads behind the call as it read before'; 0 by the template 'total and deterministic' (their statements: YtcgggihjcelmhaaTotals.lean).
  GIVEN WITH THE SEED: the statements are not yours to turn. If you find one false, say at which input.
  Laid BY PROGRAM, IN A SANDBOX (cutbox-rows.mjs): the forced cells as the released guide's own fill.sh prints them over the translation 26d7cc242957c9cf… (all of the seat's roots in one cut). By AI agents, Wed Nov 11 2026. No macro, syntax, notation, axiom, sorry.
-/
import Derived.Test.YtcgggihjcelmhaaChecked
import GoSem.Claim
import GoSem.ClaimJoined
import GoSem.ClaimMapViews
import Derived.JoinedTies
import Derived.KernelRfl
namespace Go.Proofs.Ytcgggihjcelmhaa
/- THE CELL 'sum', in the pinned program and in every row, IS THE sha256 OF THE DUMP (.gsa) THAT YtcgggihjcelmhaaProg.lean LOADS. Nothing in Lean hashes anything: it is a label: what it is worth is what the hold of that sum in a sandbox is worth. -/
noncomputable def Try.pinned : Pinned := { name := "ytcgggihjcelmhaa", sum := "26d7cc242957c9cf579881080a660f3f0c538ec435d2df5b2cc7873c332f4cc6", checked := Try.checked }
namespace Rows
def none {H : Type} : Left H := { results := [], args := [] }

/-- 'laws.FnMoveOk': WHATEVER THE INPUT: true; the input reads as it did. -/
def fnMoveOkSpec : ChangeSpec := { name := "fnMoveOk", fn := fun _ => fun
  | [d] => { results := [.lit (.bool true)], args := [d] }
  | _ => none }
def fnMoveOkRow : OpenClaim := { program := "ytcgggihjcelmhaa", sum := "26d7cc242957c9cf579881080a660f3f0c538ec435d2df5b2cc7873c332f4cc6", func := "loop.example/guesthouse/laws.FnMoveOk", spec := "fnMoveOk", apart := false }
def FnMoveOkSaid : Prop := fnMoveOkRow.holds Try.pinned (OpenSpec.ofChange fnMoveOkSpec)

/-- ITS FALSE NEIGHBOUR: 'it returns false'. Refute it at one input. -/
def fnMoveOkWrong : ChangeSpec := { name := "fnMoveOk", fn := fun _ => fun
  | [d] => { results := [.lit (.bool false)], args := [d] }
  | _ => none }
def FnMoveOkWrongFalsely : Prop := fnMoveOkRow.holds Try.pinned (OpenSpec.ofChange fnMoveOkWrong)

/-- 'laws.FnMoveBegin': WHATEVER THE INPUT: true; the input reads as it did. -/
def fnMoveBeginSpec : ChangeSpec := { name := "fnMoveBegin", fn := fun _ => fun
  | [d] => { results := [.lit (.bool true)], args := [d] }
  | _ => none }
def fnMoveBeginRow : OpenClaim := { program := "ytcgggihjcelmhaa", sum := "26d7cc242957c9cf579881080a660f3f0c538ec435d2df5b2cc7873c332f4cc6", func := "loop.example/guesthouse/laws.FnMoveBegin", spec := "fnMoveBegin", apart := false }
def FnMoveBeginSaid : Prop := fnMoveBeginRow.holds Try.pinned (OpenSpec.ofChange fnMoveBeginSpec)

/-- ITS FALSE NEIGHBOUR: 'it returns false'. Refute it at one input. -/
def fnMoveBeginWrong : ChangeSpec := { name := "fnMoveBegin", fn := fun _ => fun
  | [d] => { results := [.lit (.bool false)], args := [d] }
  | _ => none }
def FnMoveBeginWrongFalsely : Prop := fnMoveBeginRow.holds Try.pinned (OpenSpec.ofChange fnMoveBeginWrong)

/-- 'laws.FnExactMoveOk': WHATEVER THE INPUT: true; the input reads as it did. -/
def fnExactMoveOkSpec : ChangeSpec := { name := "fnExactMoveOk", fn := fun _ => fun
  | [d] => { results := [.lit (.bool true)], args := [d] }
  | _ => none }
def fnExactMoveOkRow : OpenClaim := { program := "ytcgggihjcelmhaa", sum := "26d7cc242957c9cf579881080a660f3f0c538ec435d2df5b2cc7873c332f4cc6", func := "loop.example/guesthouse/laws.FnExactMoveOk", spec := "fnExactMoveOk", apart := false }
def FnExactMoveOkSaid : Prop := fnExactMoveOkRow.holds Try.pinned (OpenSpec.ofChange fnExactMoveOkSpec)

/-- ITS FALSE NEIGHBOUR: 'it returns false'. Refute it at one input. -/
def fnExactMoveOkWrong : ChangeSpec := { name := "fnExactMoveOk", fn := fun _ => fun
  | [d] => { results := [.lit (.bool false)], args := [d] }
  | _ => none }
def FnExactMoveOkWrongFalsely : Prop := fnExactMoveOkRow.holds Try.pinned (OpenSpec.ofChange fnExactMoveOkWrong)

/-- 'laws.FnExactMoveBegin': WHATEVER THE INPUT: true; the input reads as it did. -/
def fnExactMoveBeginSpec : ChangeSpec := { name := "fnExactMoveBegin", fn := fun _ => fun
  | [d1, d2, d3] => { results := [.lit (.bool true)], args := [d1, d2, d3] }
  | _ => none }
def fnExactMoveBeginRow : OpenClaim := { program := "ytcgggihjcelmhaa", sum := "26d7cc242957c9cf579881080a660f3f0c538ec435d2df5b2cc7873c332f4cc6", func := "loop.example/guesthouse/laws.FnExactMoveBegin", spec := "fnExactMoveBegin", apart := false }
def FnExactMoveBeginSaid : Prop := fnExactMoveBeginRow.holds Try.pinned (OpenSpec.ofChange fnExactMoveBeginSpec)

/-- ITS FALSE NEIGHBOUR: 'it returns false'. Refute it at one input. -/
def fnExactMoveBeginWrong : ChangeSpec := { name := "fnExactMoveBegin", fn := fun _ => fun
  | [d1, d2, d3] => { results := [.lit (.bool false)], args := [d1, d2, d3] }
  | _ => none }
def FnExactMoveBeginWrongFalsely : Prop := fnExactMoveBeginRow.holds Try.pinned (OpenSpec.ofChange fnExactMoveBeginWrong)

/-- 'laws.FnExactMoveEnd': WHATEVER THE INPUT: true; the input reads as it did. -/
def fnExactMoveEndSpec : ChangeSpec := { name := "fnExactMoveEnd", fn := fun _ => fun
  | [d] => { results := [.lit (.bool true)], args := [d] }
  | _ => none }
def fnExactMoveEndRow : OpenClaim := { program := "ytcgggihjcelmhaa", sum := "26d7cc242957c9cf579881080a660f3f0c538ec435d2df5b2cc7873c332f4cc6", func := "loop.example/guesthouse/laws.FnExactMoveEnd", spec := "fnExactMoveEnd", apart := false }
def FnExactMoveEndSaid : Prop := fnExactMoveEndRow.holds Try.pinned (OpenSpec.ofChange fnExactMoveEndSpec)

/-- ITS FALSE NEIGHBOUR: 'it returns false'. Refute it at one input. -/
def fnExactMoveEndWrong : ChangeSpec := { name := "fnExactMoveEnd", fn := fun _ => fun
  | [d] => { results := [.lit (.bool false)], args := [d] }
  | _ => none }
def FnExactMoveEndWrongFalsely : Prop := fnExactMoveEndRow.holds Try.pinned (OpenSpec.ofChange fnExactMoveEndWrong)

/- THE SECOND FORM. 'bulk': how many values and letters a reading holds, each counted each time it is reached (what is shared counts as often as it is met; a slice's spare places count too). A statement '..UptoSaid' is the law's where the arguments, and the package variables that the reading takes, are together of bulk at most 1048576: NARROWER than '..Said'. Prove '..Said' where nothing that the law and all that it calls make is longer than what came in: it says more and counts as full. Else prove '..UptoSaid'. A law counts once. -/
mutual
def uptoBulk {H : Type} : DataW H → Nat
  | .lit (.string bytes) => bytes.length + 1
  | .lit _ => 1
  | .nil => 1
  | .ptr d => uptoBulk d + 1
  | .slice elems spare => uptoBulkAll elems + uptoBulkAll spare + 1
  | .agg parts => uptoBulkAll parts + 1
  | .iface _ d => uptoBulk d + 1
  | .map entries => uptoBulkEntries entries + 1
  | .held _ => 1
def uptoBulkAll {H : Type} : List (DataW H) → Nat
  | [] => 0
  | d :: r => uptoBulk d + uptoBulkAll r
def uptoBulkEntries {H : Type} : List (Lit × DataW H) → Nat
  | [] => 0
  | x :: r => uptoBulkEntry x + uptoBulkEntries r
def uptoBulkEntry {H : Type} : Lit × DataW H → Nat
  | (.string bytes, d) => bytes.length + uptoBulk d + 1
  | (_, d) => uptoBulk d + 1
 end
def uptoSmall : (H : Type) → List (DataW H) → Bool := fun _ ds => decide (uptoBulkAll ds ≤ 1048576)
def OpenSpec.upto (s : _root_.Go.ChangeSpec) : _root_.Go.OpenSpec := { _root_.Go.OpenSpec.ofChange s with cond := some uptoSmall }

/-- 'laws.FnMoveOk', WHERE WHAT IT READS IS OF BULK AT MOST 1048576: true; the input reads as it did. -/
def fnMoveOkUptoRow : OpenClaim := { program := "ytcgggihjcelmhaa", sum := "26d7cc242957c9cf579881080a660f3f0c538ec435d2df5b2cc7873c332f4cc6", func := "loop.example/guesthouse/laws.FnMoveOk", spec := "fnMoveOk", apart := false, narrowed := true }
def FnMoveOkUptoSaid : Prop := fnMoveOkUptoRow.holds Try.pinned (OpenSpec.upto fnMoveOkSpec)

/-- 'laws.FnMoveBegin', WHERE WHAT IT READS IS OF BULK AT MOST 1048576: true; the input reads as it did. -/
def fnMoveBeginUptoRow : OpenClaim := { program := "ytcgggihjcelmhaa", sum := "26d7cc242957c9cf579881080a660f3f0c538ec435d2df5b2cc7873c332f4cc6", func := "loop.example/guesthouse/laws.FnMoveBegin", spec := "fnMoveBegin", apart := false, narrowed := true }
def FnMoveBeginUptoSaid : Prop := fnMoveBeginUptoRow.holds Try.pinned (OpenSpec.upto fnMoveBeginSpec)

/-- 'laws.FnExactMoveOk', WHERE WHAT IT READS IS OF BULK AT MOST 1048576: true; the input reads as it did. -/
def fnExactMoveOkUptoRow : OpenClaim := { program := "ytcgggihjcelmhaa", sum := "26d7cc242957c9cf579881080a660f3f0c538ec435d2df5b2cc7873c332f4cc6", func := "loop.example/guesthouse/laws.FnExactMoveOk", spec := "fnExactMoveOk", apart := false, narrowed := true }
def FnExactMoveOkUptoSaid : Prop := fnExactMoveOkUptoRow.holds Try.pinned (OpenSpec.upto fnExactMoveOkSpec)

/-- 'laws.FnExactMoveBegin', WHERE WHAT IT READS IS OF BULK AT MOST 1048576: true; the input reads as it did. -/
def fnExactMoveBeginUptoRow : OpenClaim := { program := "ytcgggihjcelmhaa", sum := "26d7cc242957c9cf579881080a660f3f0c538ec435d2df5b2cc7873c332f4cc6", func := "loop.example/guesthouse/laws.FnExactMoveBegin", spec := "fnExactMoveBegin", apart := false, narrowed := true }
def FnExactMoveBeginUptoSaid : Prop := fnExactMoveBeginUptoRow.holds Try.pinned (OpenSpec.upto fnExactMoveBeginSpec)

/-- 'laws.FnExactMoveEnd', WHERE WHAT IT READS IS OF BULK AT MOST 1048576: true; the input reads as it did. -/
def fnExactMoveEndUptoRow : OpenClaim := { program := "ytcgggihjcelmhaa", sum := "26d7cc242957c9cf579881080a660f3f0c538ec435d2df5b2cc7873c332f4cc6", func := "loop.example/guesthouse/laws.FnExactMoveEnd", spec := "fnExactMoveEnd", apart := false, narrowed := true }
def FnExactMoveEndUptoSaid : Prop := fnExactMoveEndUptoRow.holds Try.pinned (OpenSpec.upto fnExactMoveEndSpec)

end Rows
end Go.Proofs.Ytcgggihjcelmhaa
