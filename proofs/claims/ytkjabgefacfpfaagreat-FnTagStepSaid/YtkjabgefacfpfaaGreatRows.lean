/-
  No cell of these rows narrows 'for every input' (looked for: loops, veiled, ifaces, maps, wideKeys, modest, calm, conditions, laid).
  DERIVED. THE GIVEN ROWS OF THIS SEAT. 7 by the template 'for every input the law returns true; each argument reads behind the call as it read before'; 0 by the template 'total and deterministic' (their statements: YtkjabgefacfpfaaGreatTotals.lean).
  GIVEN WITH THE SEED: the statements are not yours to turn. If you find one false, say at which input.
  Laid BY PROGRAM, IN A SANDBOX (cutbox-rows.mjs): the forced cells as the released guide's own fill.sh prints them over the translation ea6b1974d1116980… (all of the seat's roots in one cut). By AI agents, Wed Nov 11 2026. No macro, syntax, notation, axiom, sorry.
-/
import Derived.Test.YtkjabgefacfpfaaGreatChecked
import GoSem.Claim
import GoSem.ClaimJoined
import GoSem.ClaimMapViews
import Derived.JoinedTies
import Derived.KernelRfl
namespace Go.Proofs.YtkjabgefacfpfaaGreat
/- THE CELL 'sum', in the pinned program and in every row, IS THE sha256 OF THE DUMP (.gsa) THAT YtkjabgefacfpfaaGreatProg.lean LOADS. Nothing in Lean hashes anything: it is a label: what it is worth is what the hold of that sum in a sandbox is worth. -/
noncomputable def Tryz.pinned : Pinned := { name := "ytkjabgefacfpfaagreat", sum := "ea6b1974d1116980450fb8a599cce7c201228c7aba400c761cbd2d01260ddfb9", checked := Tryz.checked }
namespace Rows
def none {H : Type} : Left H := { results := [], args := [] }

/-- 'laws.FnShareStep': WHATEVER THE INPUT: true; the input reads as it did. -/
def fnShareStepSpec : ChangeSpec := { name := "fnShareStep", fn := fun _ => fun
  | [d] => { results := [.lit (.bool true)], args := [d] }
  | _ => none }
def fnShareStepRow : OpenClaim := { program := "ytkjabgefacfpfaagreat", sum := "ea6b1974d1116980450fb8a599cce7c201228c7aba400c761cbd2d01260ddfb9", func := "loop.example/guesthouse/laws.FnShareStep", spec := "fnShareStep", apart := false }
def FnShareStepSaid : Prop := fnShareStepRow.holds Tryz.pinned (OpenSpec.ofChange fnShareStepSpec)

/-- ITS FALSE NEIGHBOUR: 'it returns false'. Refute it at one input. -/
def fnShareStepWrong : ChangeSpec := { name := "fnShareStep", fn := fun _ => fun
  | [d] => { results := [.lit (.bool false)], args := [d] }
  | _ => none }
def FnShareStepWrongFalsely : Prop := fnShareStepRow.holds Tryz.pinned (OpenSpec.ofChange fnShareStepWrong)

/-- 'laws.FnHostStep': WHATEVER THE INPUT: true; the input reads as it did. -/
def fnHostStepSpec : ChangeSpec := { name := "fnHostStep", fn := fun _ => fun
  | [d] => { results := [.lit (.bool true)], args := [d] }
  | _ => none }
def fnHostStepRow : OpenClaim := { program := "ytkjabgefacfpfaagreat", sum := "ea6b1974d1116980450fb8a599cce7c201228c7aba400c761cbd2d01260ddfb9", func := "loop.example/guesthouse/laws.FnHostStep", spec := "fnHostStep", apart := false }
def FnHostStepSaid : Prop := fnHostStepRow.holds Tryz.pinned (OpenSpec.ofChange fnHostStepSpec)

/-- ITS FALSE NEIGHBOUR: 'it returns false'. Refute it at one input. -/
def fnHostStepWrong : ChangeSpec := { name := "fnHostStep", fn := fun _ => fun
  | [d] => { results := [.lit (.bool false)], args := [d] }
  | _ => none }
def FnHostStepWrongFalsely : Prop := fnHostStepRow.holds Tryz.pinned (OpenSpec.ofChange fnHostStepWrong)

/-- 'laws.FnStepDirty': WHATEVER THE INPUT: true; the input reads as it did. -/
def fnStepDirtySpec : ChangeSpec := { name := "fnStepDirty", fn := fun _ => fun
  | [d] => { results := [.lit (.bool true)], args := [d] }
  | _ => none }
def fnStepDirtyRow : OpenClaim := { program := "ytkjabgefacfpfaagreat", sum := "ea6b1974d1116980450fb8a599cce7c201228c7aba400c761cbd2d01260ddfb9", func := "loop.example/guesthouse/laws.FnStepDirty", spec := "fnStepDirty", apart := false }
def FnStepDirtySaid : Prop := fnStepDirtyRow.holds Tryz.pinned (OpenSpec.ofChange fnStepDirtySpec)

/-- ITS FALSE NEIGHBOUR: 'it returns false'. Refute it at one input. -/
def fnStepDirtyWrong : ChangeSpec := { name := "fnStepDirty", fn := fun _ => fun
  | [d] => { results := [.lit (.bool false)], args := [d] }
  | _ => none }
def FnStepDirtyWrongFalsely : Prop := fnStepDirtyRow.holds Tryz.pinned (OpenSpec.ofChange fnStepDirtyWrong)

/-- 'laws.FnExactHostStep': WHATEVER THE INPUT: true; the input reads as it did. -/
def fnExactHostStepSpec : ChangeSpec := { name := "fnExactHostStep", fn := fun _ => fun
  | [d1, d2] => { results := [.lit (.bool true)], args := [d1, d2] }
  | _ => none }
def fnExactHostStepRow : OpenClaim := { program := "ytkjabgefacfpfaagreat", sum := "ea6b1974d1116980450fb8a599cce7c201228c7aba400c761cbd2d01260ddfb9", func := "loop.example/guesthouse/laws.FnExactHostStep", spec := "fnExactHostStep", apart := false }
def FnExactHostStepSaid : Prop := fnExactHostStepRow.holds Tryz.pinned (OpenSpec.ofChange fnExactHostStepSpec)

/-- ITS FALSE NEIGHBOUR: 'it returns false'. Refute it at one input. -/
def fnExactHostStepWrong : ChangeSpec := { name := "fnExactHostStep", fn := fun _ => fun
  | [d1, d2] => { results := [.lit (.bool false)], args := [d1, d2] }
  | _ => none }
def FnExactHostStepWrongFalsely : Prop := fnExactHostStepRow.holds Tryz.pinned (OpenSpec.ofChange fnExactHostStepWrong)

/-- 'laws.FnExactHostRun': WHATEVER THE INPUT: true; the input reads as it did. -/
def fnExactHostRunSpec : ChangeSpec := { name := "fnExactHostRun", fn := fun _ => fun
  | [d1, d2] => { results := [.lit (.bool true)], args := [d1, d2] }
  | _ => none }
def fnExactHostRunRow : OpenClaim := { program := "ytkjabgefacfpfaagreat", sum := "ea6b1974d1116980450fb8a599cce7c201228c7aba400c761cbd2d01260ddfb9", func := "loop.example/guesthouse/laws.FnExactHostRun", spec := "fnExactHostRun", apart := false }
def FnExactHostRunSaid : Prop := fnExactHostRunRow.holds Tryz.pinned (OpenSpec.ofChange fnExactHostRunSpec)

/-- ITS FALSE NEIGHBOUR: 'it returns false'. Refute it at one input. -/
def fnExactHostRunWrong : ChangeSpec := { name := "fnExactHostRun", fn := fun _ => fun
  | [d1, d2] => { results := [.lit (.bool false)], args := [d1, d2] }
  | _ => none }
def FnExactHostRunWrongFalsely : Prop := fnExactHostRunRow.holds Tryz.pinned (OpenSpec.ofChange fnExactHostRunWrong)

/-- 'laws.FnHostRun': WHATEVER THE INPUT: true; the input reads as it did. -/
def fnHostRunSpec : ChangeSpec := { name := "fnHostRun", fn := fun _ => fun
  | [d] => { results := [.lit (.bool true)], args := [d] }
  | _ => none }
def fnHostRunRow : OpenClaim := { program := "ytkjabgefacfpfaagreat", sum := "ea6b1974d1116980450fb8a599cce7c201228c7aba400c761cbd2d01260ddfb9", func := "loop.example/guesthouse/laws.FnHostRun", spec := "fnHostRun", apart := false }
def FnHostRunSaid : Prop := fnHostRunRow.holds Tryz.pinned (OpenSpec.ofChange fnHostRunSpec)

/-- ITS FALSE NEIGHBOUR: 'it returns false'. Refute it at one input. -/
def fnHostRunWrong : ChangeSpec := { name := "fnHostRun", fn := fun _ => fun
  | [d] => { results := [.lit (.bool false)], args := [d] }
  | _ => none }
def FnHostRunWrongFalsely : Prop := fnHostRunRow.holds Tryz.pinned (OpenSpec.ofChange fnHostRunWrong)

/-- 'laws.FnTagStep': WHATEVER THE INPUT: true; the input reads as it did. -/
def fnTagStepSpec : ChangeSpec := { name := "fnTagStep", fn := fun _ => fun
  | [d] => { results := [.lit (.bool true)], args := [d] }
  | _ => none }
def fnTagStepRow : OpenClaim := { program := "ytkjabgefacfpfaagreat", sum := "ea6b1974d1116980450fb8a599cce7c201228c7aba400c761cbd2d01260ddfb9", func := "loop.example/guesthouse/laws.FnTagStep", spec := "fnTagStep", apart := false }
def FnTagStepSaid : Prop := fnTagStepRow.holds Tryz.pinned (OpenSpec.ofChange fnTagStepSpec)

/-- ITS FALSE NEIGHBOUR: 'it returns false'. Refute it at one input. -/
def fnTagStepWrong : ChangeSpec := { name := "fnTagStep", fn := fun _ => fun
  | [d] => { results := [.lit (.bool false)], args := [d] }
  | _ => none }
def FnTagStepWrongFalsely : Prop := fnTagStepRow.holds Tryz.pinned (OpenSpec.ofChange fnTagStepWrong)

/- THE SECOND FORM. 'bulk': how many values and letters a reading holds, each counted each time it is reached (what is shared counts as often as it is met; a slice's spare places count too). A statement '..UptoSaid' is the law's where the arguments, and the package variables that the reading takes, are together of bulk at most 1048576: NARROWER than '..Said'. Prove '..Said' where nothing that the law and all that it calls make is longer than what came in: it says more and counts as full. Else prove '..UptoSaid'. A law counts once. -/
mutual
def uptoBulk {H : Type} : DataW H → Nat
  | .lit (.string bytes) => bytes.length + 1
  | .lit _ => 1
  | .nil => 1
  | .ptr d => uptoBulk d + 1
  | .slice elems spare => uptoBulkAll elems + uptoBulkAll spare + 1
  | .agg parts => uptoBulkAll parts + 1
  | .iface _ d => uptoBulk d + 1
  | .map entries => uptoBulkEntries entries + 1
  | .held _ => 1
def uptoBulkAll {H : Type} : List (DataW H) → Nat
  | [] => 0
  | d :: r => uptoBulk d + uptoBulkAll r
def uptoBulkEntries {H : Type} : List (Lit × DataW H) → Nat
  | [] => 0
  | x :: r => uptoBulkEntry x + uptoBulkEntries r
def uptoBulkEntry {H : Type} : Lit × DataW H → Nat
  | (.string bytes, d) => bytes.length + uptoBulk d + 1
  | (_, d) => uptoBulk d + 1
 end
def uptoSmall : (H : Type) → List (DataW H) → Bool := fun _ ds => decide (uptoBulkAll ds ≤ 1048576)
def OpenSpec.upto (s : _root_.Go.ChangeSpec) : _root_.Go.OpenSpec := { _root_.Go.OpenSpec.ofChange s with cond := some uptoSmall }

/-- 'laws.FnShareStep', WHERE WHAT IT READS IS OF BULK AT MOST 1048576: true; the input reads as it did. -/
def fnShareStepUptoRow : OpenClaim := { program := "ytkjabgefacfpfaagreat", sum := "ea6b1974d1116980450fb8a599cce7c201228c7aba400c761cbd2d01260ddfb9", func := "loop.example/guesthouse/laws.FnShareStep", spec := "fnShareStep", apart := false, narrowed := true }
def FnShareStepUptoSaid : Prop := fnShareStepUptoRow.holds Tryz.pinned (OpenSpec.upto fnShareStepSpec)

/-- 'laws.FnHostStep', WHERE WHAT IT READS IS OF BULK AT MOST 1048576: true; the input reads as it did. -/
def fnHostStepUptoRow : OpenClaim := { program := "ytkjabgefacfpfaagreat", sum := "ea6b1974d1116980450fb8a599cce7c201228c7aba400c761cbd2d01260ddfb9", func := "loop.example/guesthouse/laws.FnHostStep", spec := "fnHostStep", apart := false, narrowed := true }
def FnHostStepUptoSaid : Prop := fnHostStepUptoRow.holds Tryz.pinned (OpenSpec.upto fnHostStepSpec)

/-- 'laws.FnStepDirty', WHERE WHAT IT READS IS OF BULK AT MOST 1048576: true; the input reads as it did. -/
def fnStepDirtyUptoRow : OpenClaim := { program := "ytkjabgefacfpfaagreat", sum := "ea6b1974d1116980450fb8a599cce7c201228c7aba400c761cbd2d01260ddfb9", func := "loop.example/guesthouse/laws.FnStepDirty", spec := "fnStepDirty", apart := false, narrowed := true }
def FnStepDirtyUptoSaid : Prop := fnStepDirtyUptoRow.holds Tryz.pinned (OpenSpec.upto fnStepDirtySpec)

/-- 'laws.FnExactHostStep', WHERE WHAT IT READS IS OF BULK AT MOST 1048576: true; the input reads as it did. -/
def fnExactHostStepUptoRow : OpenClaim := { program := "ytkjabgefacfpfaagreat", sum := "ea6b1974d1116980450fb8a599cce7c201228c7aba400c761cbd2d01260ddfb9", func := "loop.example/guesthouse/laws.FnExactHostStep", spec := "fnExactHostStep", apart := false, narrowed := true }
def FnExactHostStepUptoSaid : Prop := fnExactHostStepUptoRow.holds Tryz.pinned (OpenSpec.upto fnExactHostStepSpec)

/-- 'laws.FnExactHostRun', WHERE WHAT IT READS IS OF BULK AT MOST 1048576: true; the input reads as it did. -/
def fnExactHostRunUptoRow : OpenClaim := { program := "ytkjabgefacfpfaagreat", sum := "ea6b1974d1116980450fb8a599cce7c201228c7aba400c761cbd2d01260ddfb9", func := "loop.example/guesthouse/laws.FnExactHostRun", spec := "fnExactHostRun", apart := false, narrowed := true }
def FnExactHostRunUptoSaid : Prop := fnExactHostRunUptoRow.holds Tryz.pinned (OpenSpec.upto fnExactHostRunSpec)

/-- 'laws.FnHostRun', WHERE WHAT IT READS IS OF BULK AT MOST 1048576: true; the input reads as it did. -/
def fnHostRunUptoRow : OpenClaim := { program := "ytkjabgefacfpfaagreat", sum := "ea6b1974d1116980450fb8a599cce7c201228c7aba400c761cbd2d01260ddfb9", func := "loop.example/guesthouse/laws.FnHostRun", spec := "fnHostRun", apart := false, narrowed := true }
def FnHostRunUptoSaid : Prop := fnHostRunUptoRow.holds Tryz.pinned (OpenSpec.upto fnHostRunSpec)

/-- 'laws.FnTagStep', WHERE WHAT IT READS IS OF BULK AT MOST 1048576: true; the input reads as it did. -/
def fnTagStepUptoRow : OpenClaim := { program := "ytkjabgefacfpfaagreat", sum := "ea6b1974d1116980450fb8a599cce7c201228c7aba400c761cbd2d01260ddfb9", func := "loop.example/guesthouse/laws.FnTagStep", spec := "fnTagStep", apart := false, narrowed := true }
def FnTagStepUptoSaid : Prop := fnTagStepUptoRow.holds Tryz.pinned (OpenSpec.upto fnTagStepSpec)

end Rows
end Go.Proofs.YtkjabgefacfpfaaGreat
