/-
  No cell of these rows narrows 'for every input' (looked for: loops, veiled, ifaces, maps, wideKeys, modest, calm, conditions, laid).
  DERIVED. THE GIVEN ROWS OF THIS SEAT. 5 by the template 'for every input the law returns true; each argument reads behind the call as it read before'; 0 by the template 'total and deterministic' (their statements: YtcgggihjcelmhaaGreatTotals.lean).
  GIVEN WITH THE SEED: the statements are not yours to turn. If you find one false, say at which input.
  Laid BY PROGRAM, IN A SANDBOX (cutbox-rows.mjs): the forced cells as the released guide's own fill.sh prints them over the translation 197e4565625a5137… (all of the seat's roots in one cut). By AI agents, Wed Nov 11 2026. No macro, syntax, notation, axiom, sorry.
-/
import Derived.Test.YtcgggihjcelmhaaGreatChecked
import GoSem.Claim
import GoSem.ClaimJoined
import GoSem.ClaimMapViews
import Derived.JoinedTies
import Derived.KernelRfl
namespace Go.Proofs.YtcgggihjcelmhaaGreat
/- THE CELL 'sum', in the pinned program and in every row, IS THE sha256 OF THE DUMP (.gsa) THAT YtcgggihjcelmhaaGreatProg.lean LOADS. Nothing in Lean hashes anything: it is a label: what it is worth is what the hold of that sum in a sandbox is worth. -/
noncomputable def Tryz.pinned : Pinned := { name := "ytcgggihjcelmhaagreat", sum := "197e4565625a513703f933fc5a11fa4d06f4c4fb1aac668d67db20425b9b2e1b", checked := Tryz.checked }
namespace Rows
def none {H : Type} : Left H := { results := [], args := [] }

/-- 'laws.FnMoveDo': WHATEVER THE INPUT: true; the input reads as it did. -/
def fnMoveDoSpec : ChangeSpec := { name := "fnMoveDo", fn := fun _ => fun
  | [d] => { results := [.lit (.bool true)], args := [d] }
  | _ => none }
def fnMoveDoRow : OpenClaim := { program := "ytcgggihjcelmhaagreat", sum := "197e4565625a513703f933fc5a11fa4d06f4c4fb1aac668d67db20425b9b2e1b", func := "loop.example/guesthouse/laws.FnMoveDo", spec := "fnMoveDo", apart := false }
def FnMoveDoSaid : Prop := fnMoveDoRow.holds Tryz.pinned (OpenSpec.ofChange fnMoveDoSpec)

/-- ITS FALSE NEIGHBOUR: 'it returns false'. Refute it at one input. -/
def fnMoveDoWrong : ChangeSpec := { name := "fnMoveDo", fn := fun _ => fun
  | [d] => { results := [.lit (.bool false)], args := [d] }
  | _ => none }
def FnMoveDoWrongFalsely : Prop := fnMoveDoRow.holds Tryz.pinned (OpenSpec.ofChange fnMoveDoWrong)

/-- 'laws.FnMoveEnd': WHATEVER THE INPUT: true; the input reads as it did. -/
def fnMoveEndSpec : ChangeSpec := { name := "fnMoveEnd", fn := fun _ => fun
  | [d] => { results := [.lit (.bool true)], args := [d] }
  | _ => none }
def fnMoveEndRow : OpenClaim := { program := "ytcgggihjcelmhaagreat", sum := "197e4565625a513703f933fc5a11fa4d06f4c4fb1aac668d67db20425b9b2e1b", func := "loop.example/guesthouse/laws.FnMoveEnd", spec := "fnMoveEnd", apart := false }
def FnMoveEndSaid : Prop := fnMoveEndRow.holds Tryz.pinned (OpenSpec.ofChange fnMoveEndSpec)

/-- ITS FALSE NEIGHBOUR: 'it returns false'. Refute it at one input. -/
def fnMoveEndWrong : ChangeSpec := { name := "fnMoveEnd", fn := fun _ => fun
  | [d] => { results := [.lit (.bool false)], args := [d] }
  | _ => none }
def FnMoveEndWrongFalsely : Prop := fnMoveEndRow.holds Tryz.pinned (OpenSpec.ofChange fnMoveEndWrong)

/-- 'laws.FnMoveAll': WHATEVER THE INPUT: true; the input reads as it did. -/
def fnMoveAllSpec : ChangeSpec := { name := "fnMoveAll", fn := fun _ => fun
  | [d] => { results := [.lit (.bool true)], args := [d] }
  | _ => none }
def fnMoveAllRow : OpenClaim := { program := "ytcgggihjcelmhaagreat", sum := "197e4565625a513703f933fc5a11fa4d06f4c4fb1aac668d67db20425b9b2e1b", func := "loop.example/guesthouse/laws.FnMoveAll", spec := "fnMoveAll", apart := false }
def FnMoveAllSaid : Prop := fnMoveAllRow.holds Tryz.pinned (OpenSpec.ofChange fnMoveAllSpec)

/-- ITS FALSE NEIGHBOUR: 'it returns false'. Refute it at one input. -/
def fnMoveAllWrong : ChangeSpec := { name := "fnMoveAll", fn := fun _ => fun
  | [d] => { results := [.lit (.bool false)], args := [d] }
  | _ => none }
def FnMoveAllWrongFalsely : Prop := fnMoveAllRow.holds Tryz.pinned (OpenSpec.ofChange fnMoveAllWrong)

/-- 'laws.FnExactMoveDo': WHATEVER THE INPUT: true; the input reads as it did. -/
def fnExactMoveDoSpec : ChangeSpec := { name := "fnExactMoveDo", fn := fun _ => fun
  | [d1, d2] => { results := [.lit (.bool true)], args := [d1, d2] }
  | _ => none }
def fnExactMoveDoRow : OpenClaim := { program := "ytcgggihjcelmhaagreat", sum := "197e4565625a513703f933fc5a11fa4d06f4c4fb1aac668d67db20425b9b2e1b", func := "loop.example/guesthouse/laws.FnExactMoveDo", spec := "fnExactMoveDo", apart := false }
def FnExactMoveDoSaid : Prop := fnExactMoveDoRow.holds Tryz.pinned (OpenSpec.ofChange fnExactMoveDoSpec)

/-- ITS FALSE NEIGHBOUR: 'it returns false'. Refute it at one input. -/
def fnExactMoveDoWrong : ChangeSpec := { name := "fnExactMoveDo", fn := fun _ => fun
  | [d1, d2] => { results := [.lit (.bool false)], args := [d1, d2] }
  | _ => none }
def FnExactMoveDoWrongFalsely : Prop := fnExactMoveDoRow.holds Tryz.pinned (OpenSpec.ofChange fnExactMoveDoWrong)

/-- 'laws.FnExactMoveAll': WHATEVER THE INPUT: true; the input reads as it did. -/
def fnExactMoveAllSpec : ChangeSpec := { name := "fnExactMoveAll", fn := fun _ => fun
  | [d1, d2, d3, d4] => { results := [.lit (.bool true)], args := [d1, d2, d3, d4] }
  | _ => none }
def fnExactMoveAllRow : OpenClaim := { program := "ytcgggihjcelmhaagreat", sum := "197e4565625a513703f933fc5a11fa4d06f4c4fb1aac668d67db20425b9b2e1b", func := "loop.example/guesthouse/laws.FnExactMoveAll", spec := "fnExactMoveAll", apart := false }
def FnExactMoveAllSaid : Prop := fnExactMoveAllRow.holds Tryz.pinned (OpenSpec.ofChange fnExactMoveAllSpec)

/-- ITS FALSE NEIGHBOUR: 'it returns false'. Refute it at one input. -/
def fnExactMoveAllWrong : ChangeSpec := { name := "fnExactMoveAll", fn := fun _ => fun
  | [d1, d2, d3, d4] => { results := [.lit (.bool false)], args := [d1, d2, d3, d4] }
  | _ => none }
def FnExactMoveAllWrongFalsely : Prop := fnExactMoveAllRow.holds Tryz.pinned (OpenSpec.ofChange fnExactMoveAllWrong)

/- THE SECOND FORM. 'bulk': how many values and letters a reading holds, each counted each time it is reached (what is shared counts as often as it is met; a slice's spare places count too). A statement '..UptoSaid' is the law's where the arguments, and the package variables that the reading takes, are together of bulk at most 1048576: NARROWER than '..Said'. Prove '..Said' where nothing that the law and all that it calls make is longer than what came in: it says more and counts as full. Else prove '..UptoSaid'. A law counts once. -/
mutual
def uptoBulk {H : Type} : DataW H → Nat
  | .lit (.string bytes) => bytes.length + 1
  | .lit _ => 1
  | .nil => 1
  | .ptr d => uptoBulk d + 1
  | .slice elems spare => uptoBulkAll elems + uptoBulkAll spare + 1
  | .agg parts => uptoBulkAll parts + 1
  | .iface _ d => uptoBulk d + 1
  | .map entries => uptoBulkEntries entries + 1
  | .held _ => 1
def uptoBulkAll {H : Type} : List (DataW H) → Nat
  | [] => 0
  | d :: r => uptoBulk d + uptoBulkAll r
def uptoBulkEntries {H : Type} : List (Lit × DataW H) → Nat
  | [] => 0
  | x :: r => uptoBulkEntry x + uptoBulkEntries r
def uptoBulkEntry {H : Type} : Lit × DataW H → Nat
  | (.string bytes, d) => bytes.length + uptoBulk d + 1
  | (_, d) => uptoBulk d + 1
 end
def uptoSmall : (H : Type) → List (DataW H) → Bool := fun _ ds => decide (uptoBulkAll ds ≤ 1048576)
def OpenSpec.upto (s : _root_.Go.ChangeSpec) : _root_.Go.OpenSpec := { _root_.Go.OpenSpec.ofChange s with cond := some uptoSmall }

/-- 'laws.FnMoveDo', WHERE WHAT IT READS IS OF BULK AT MOST 1048576: true; the input reads as it did. -/
def fnMoveDoUptoRow : OpenClaim := { program := "ytcgggihjcelmhaagreat", sum := "197e4565625a513703f933fc5a11fa4d06f4c4fb1aac668d67db20425b9b2e1b", func := "loop.example/guesthouse/laws.FnMoveDo", spec := "fnMoveDo", apart := false, narrowed := true }
def FnMoveDoUptoSaid : Prop := fnMoveDoUptoRow.holds Tryz.pinned (OpenSpec.upto fnMoveDoSpec)

/-- 'laws.FnMoveEnd', WHERE WHAT IT READS IS OF BULK AT MOST 1048576: true; the input reads as it did. -/
def fnMoveEndUptoRow : OpenClaim := { program := "ytcgggihjcelmhaagreat", sum := "197e4565625a513703f933fc5a11fa4d06f4c4fb1aac668d67db20425b9b2e1b", func := "loop.example/guesthouse/laws.FnMoveEnd", spec := "fnMoveEnd", apart := false, narrowed := true }
def FnMoveEndUptoSaid : Prop := fnMoveEndUptoRow.holds Tryz.pinned (OpenSpec.upto fnMoveEndSpec)

/-- 'laws.FnMoveAll', WHERE WHAT IT READS IS OF BULK AT MOST 1048576: true; the input reads as it did. -/
def fnMoveAllUptoRow : OpenClaim := { program := "ytcgggihjcelmhaagreat", sum := "197e4565625a513703f933fc5a11fa4d06f4c4fb1aac668d67db20425b9b2e1b", func := "loop.example/guesthouse/laws.FnMoveAll", spec := "fnMoveAll", apart := false, narrowed := true }
def FnMoveAllUptoSaid : Prop := fnMoveAllUptoRow.holds Tryz.pinned (OpenSpec.upto fnMoveAllSpec)

/-- 'laws.FnExactMoveDo', WHERE WHAT IT READS IS OF BULK AT MOST 1048576: true; the input reads as it did. -/
def fnExactMoveDoUptoRow : OpenClaim := { program := "ytcgggihjcelmhaagreat", sum := "197e4565625a513703f933fc5a11fa4d06f4c4fb1aac668d67db20425b9b2e1b", func := "loop.example/guesthouse/laws.FnExactMoveDo", spec := "fnExactMoveDo", apart := false, narrowed := true }
def FnExactMoveDoUptoSaid : Prop := fnExactMoveDoUptoRow.holds Tryz.pinned (OpenSpec.upto fnExactMoveDoSpec)

/-- 'laws.FnExactMoveAll', WHERE WHAT IT READS IS OF BULK AT MOST 1048576: true; the input reads as it did. -/
def fnExactMoveAllUptoRow : OpenClaim := { program := "ytcgggihjcelmhaagreat", sum := "197e4565625a513703f933fc5a11fa4d06f4c4fb1aac668d67db20425b9b2e1b", func := "loop.example/guesthouse/laws.FnExactMoveAll", spec := "fnExactMoveAll", apart := false, narrowed := true }
def FnExactMoveAllUptoSaid : Prop := fnExactMoveAllUptoRow.holds Tryz.pinned (OpenSpec.upto fnExactMoveAllSpec)

end Rows
end Go.Proofs.YtcgggihjcelmhaaGreat
