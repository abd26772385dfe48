/-
  No cell of these rows narrows 'for every input' (looked for: loops, veiled, ifaces, maps, wideKeys, modest, calm, conditions, laid).
  DERIVED. THE GIVEN ROWS OF THIS SEAT. 7 by the template 'for every input the law returns true; each argument reads behind the call as it read before'; 0 by the template 'total and deterministic' (their statements: YtkjabgefacfpfaaTotals.lean).
  GIVEN WITH THE SEED: the statements are not yours to turn. If you find one false, say at which input.
  Laid BY PROGRAM, IN A SANDBOX (cutbox-rows.mjs): the forced cells as the released guide's own fill.sh prints them over the translation 131c90196b84c757… (all of the seat's roots in one cut). By AI agents, Wed Nov 11 2026. No macro, syntax, notation, axiom, sorry.
-/
import Derived.Test.YtkjabgefacfpfaaChecked
import GoSem.Claim
import GoSem.ClaimJoined
import GoSem.ClaimMapViews
import Derived.JoinedTies
import Derived.KernelRfl
namespace Go.Proofs.Ytkjabgefacfpfaa
/- THE CELL 'sum', in the pinned program and in every row, IS THE sha256 OF THE DUMP (.gsa) THAT YtkjabgefacfpfaaProg.lean LOADS. Nothing in Lean hashes anything: it is a label: what it is worth is what the hold of that sum in a sandbox is worth. -/
noncomputable def Try.pinned : Pinned := { name := "ytkjabgefacfpfaa", sum := "131c90196b84c757249dbb99224f1bec9c051a33a7cc8a3b4e9dc806175900d5", checked := Try.checked }
namespace Rows
def none {H : Type} : Left H := { results := [], args := [] }

/-- 'laws.FnHostShare': WHATEVER THE INPUT: true; the input reads as it did. -/
def fnHostShareSpec : ChangeSpec := { name := "fnHostShare", fn := fun _ => fun
  | [d] => { results := [.lit (.bool true)], args := [d] }
  | _ => none }
def fnHostShareRow : OpenClaim := { program := "ytkjabgefacfpfaa", sum := "131c90196b84c757249dbb99224f1bec9c051a33a7cc8a3b4e9dc806175900d5", func := "loop.example/guesthouse/laws.FnHostShare", spec := "fnHostShare", apart := false }
def FnHostShareSaid : Prop := fnHostShareRow.holds Try.pinned (OpenSpec.ofChange fnHostShareSpec)

/-- ITS FALSE NEIGHBOUR: 'it returns false'. Refute it at one input. -/
def fnHostShareWrong : ChangeSpec := { name := "fnHostShare", fn := fun _ => fun
  | [d] => { results := [.lit (.bool false)], args := [d] }
  | _ => none }
def FnHostShareWrongFalsely : Prop := fnHostShareRow.holds Try.pinned (OpenSpec.ofChange fnHostShareWrong)

/-- 'laws.FnHostZero': WHATEVER THE INPUT: true; the input reads as it did. -/
def fnHostZeroSpec : ChangeSpec := { name := "fnHostZero", fn := fun _ => fun
  | [d] => { results := [.lit (.bool true)], args := [d] }
  | _ => none }
def fnHostZeroRow : OpenClaim := { program := "ytkjabgefacfpfaa", sum := "131c90196b84c757249dbb99224f1bec9c051a33a7cc8a3b4e9dc806175900d5", func := "loop.example/guesthouse/laws.FnHostZero", spec := "fnHostZero", apart := false }
def FnHostZeroSaid : Prop := fnHostZeroRow.holds Try.pinned (OpenSpec.ofChange fnHostZeroSpec)

/-- ITS FALSE NEIGHBOUR: 'it returns false'. Refute it at one input. -/
def fnHostZeroWrong : ChangeSpec := { name := "fnHostZero", fn := fun _ => fun
  | [d] => { results := [.lit (.bool false)], args := [d] }
  | _ => none }
def FnHostZeroWrongFalsely : Prop := fnHostZeroRow.holds Try.pinned (OpenSpec.ofChange fnHostZeroWrong)

/-- 'laws.FnExactHostShare': WHATEVER THE INPUT: true; the input reads as it did. -/
def fnExactHostShareSpec : ChangeSpec := { name := "fnExactHostShare", fn := fun _ => fun
  | [d] => { results := [.lit (.bool true)], args := [d] }
  | _ => none }
def fnExactHostShareRow : OpenClaim := { program := "ytkjabgefacfpfaa", sum := "131c90196b84c757249dbb99224f1bec9c051a33a7cc8a3b4e9dc806175900d5", func := "loop.example/guesthouse/laws.FnExactHostShare", spec := "fnExactHostShare", apart := false }
def FnExactHostShareSaid : Prop := fnExactHostShareRow.holds Try.pinned (OpenSpec.ofChange fnExactHostShareSpec)

/-- ITS FALSE NEIGHBOUR: 'it returns false'. Refute it at one input. -/
def fnExactHostShareWrong : ChangeSpec := { name := "fnExactHostShare", fn := fun _ => fun
  | [d] => { results := [.lit (.bool false)], args := [d] }
  | _ => none }
def FnExactHostShareWrongFalsely : Prop := fnExactHostShareRow.holds Try.pinned (OpenSpec.ofChange fnExactHostShareWrong)

/-- 'laws.FnExactHostZero': WHATEVER THE INPUT: true; the input reads as it did. -/
def fnExactHostZeroSpec : ChangeSpec := { name := "fnExactHostZero", fn := fun _ => fun
  | [d] => { results := [.lit (.bool true)], args := [d] }
  | _ => none }
def fnExactHostZeroRow : OpenClaim := { program := "ytkjabgefacfpfaa", sum := "131c90196b84c757249dbb99224f1bec9c051a33a7cc8a3b4e9dc806175900d5", func := "loop.example/guesthouse/laws.FnExactHostZero", spec := "fnExactHostZero", apart := false }
def FnExactHostZeroSaid : Prop := fnExactHostZeroRow.holds Try.pinned (OpenSpec.ofChange fnExactHostZeroSpec)

/-- ITS FALSE NEIGHBOUR: 'it returns false'. Refute it at one input. -/
def fnExactHostZeroWrong : ChangeSpec := { name := "fnExactHostZero", fn := fun _ => fun
  | [d] => { results := [.lit (.bool false)], args := [d] }
  | _ => none }
def FnExactHostZeroWrongFalsely : Prop := fnExactHostZeroRow.holds Try.pinned (OpenSpec.ofChange fnExactHostZeroWrong)

/-- 'laws.FnTagsOk': WHATEVER THE INPUT: true; the input reads as it did. -/
def fnTagsOkSpec : ChangeSpec := { name := "fnTagsOk", fn := fun _ => fun
  | [d] => { results := [.lit (.bool true)], args := [d] }
  | _ => none }
def fnTagsOkRow : OpenClaim := { program := "ytkjabgefacfpfaa", sum := "131c90196b84c757249dbb99224f1bec9c051a33a7cc8a3b4e9dc806175900d5", func := "loop.example/guesthouse/laws.FnTagsOk", spec := "fnTagsOk", apart := false }
def FnTagsOkSaid : Prop := fnTagsOkRow.holds Try.pinned (OpenSpec.ofChange fnTagsOkSpec)

/-- ITS FALSE NEIGHBOUR: 'it returns false'. Refute it at one input. -/
def fnTagsOkWrong : ChangeSpec := { name := "fnTagsOk", fn := fun _ => fun
  | [d] => { results := [.lit (.bool false)], args := [d] }
  | _ => none }
def FnTagsOkWrongFalsely : Prop := fnTagsOkRow.holds Try.pinned (OpenSpec.ofChange fnTagsOkWrong)

/-- 'laws.FnTagWalk': WHATEVER THE INPUT: true; the input reads as it did. -/
def fnTagWalkSpec : ChangeSpec := { name := "fnTagWalk", fn := fun _ => fun
  | [d] => { results := [.lit (.bool true)], args := [d] }
  | _ => none }
def fnTagWalkRow : OpenClaim := { program := "ytkjabgefacfpfaa", sum := "131c90196b84c757249dbb99224f1bec9c051a33a7cc8a3b4e9dc806175900d5", func := "loop.example/guesthouse/laws.FnTagWalk", spec := "fnTagWalk", apart := false }
def FnTagWalkSaid : Prop := fnTagWalkRow.holds Try.pinned (OpenSpec.ofChange fnTagWalkSpec)

/-- ITS FALSE NEIGHBOUR: 'it returns false'. Refute it at one input. -/
def fnTagWalkWrong : ChangeSpec := { name := "fnTagWalk", fn := fun _ => fun
  | [d] => { results := [.lit (.bool false)], args := [d] }
  | _ => none }
def FnTagWalkWrongFalsely : Prop := fnTagWalkRow.holds Try.pinned (OpenSpec.ofChange fnTagWalkWrong)

/-- 'laws.FnTagDrop': WHATEVER THE INPUT: true; the input reads as it did. -/
def fnTagDropSpec : ChangeSpec := { name := "fnTagDrop", fn := fun _ => fun
  | [d] => { results := [.lit (.bool true)], args := [d] }
  | _ => none }
def fnTagDropRow : OpenClaim := { program := "ytkjabgefacfpfaa", sum := "131c90196b84c757249dbb99224f1bec9c051a33a7cc8a3b4e9dc806175900d5", func := "loop.example/guesthouse/laws.FnTagDrop", spec := "fnTagDrop", apart := false }
def FnTagDropSaid : Prop := fnTagDropRow.holds Try.pinned (OpenSpec.ofChange fnTagDropSpec)

/-- ITS FALSE NEIGHBOUR: 'it returns false'. Refute it at one input. -/
def fnTagDropWrong : ChangeSpec := { name := "fnTagDrop", fn := fun _ => fun
  | [d] => { results := [.lit (.bool false)], args := [d] }
  | _ => none }
def FnTagDropWrongFalsely : Prop := fnTagDropRow.holds Try.pinned (OpenSpec.ofChange fnTagDropWrong)

/- THE SECOND FORM. 'bulk': how many values and letters a reading holds, each counted each time it is reached (what is shared counts as often as it is met; a slice's spare places count too). A statement '..UptoSaid' is the law's where the arguments, and the package variables that the reading takes, are together of bulk at most 1048576: NARROWER than '..Said'. Prove '..Said' where nothing that the law and all that it calls make is longer than what came in: it says more and counts as full. Else prove '..UptoSaid'. A law counts once. -/
mutual
def uptoBulk {H : Type} : DataW H → Nat
  | .lit (.string bytes) => bytes.length + 1
  | .lit _ => 1
  | .nil => 1
  | .ptr d => uptoBulk d + 1
  | .slice elems spare => uptoBulkAll elems + uptoBulkAll spare + 1
  | .agg parts => uptoBulkAll parts + 1
  | .iface _ d => uptoBulk d + 1
  | .map entries => uptoBulkEntries entries + 1
  | .held _ => 1
def uptoBulkAll {H : Type} : List (DataW H) → Nat
  | [] => 0
  | d :: r => uptoBulk d + uptoBulkAll r
def uptoBulkEntries {H : Type} : List (Lit × DataW H) → Nat
  | [] => 0
  | x :: r => uptoBulkEntry x + uptoBulkEntries r
def uptoBulkEntry {H : Type} : Lit × DataW H → Nat
  | (.string bytes, d) => bytes.length + uptoBulk d + 1
  | (_, d) => uptoBulk d + 1
 end
def uptoSmall : (H : Type) → List (DataW H) → Bool := fun _ ds => decide (uptoBulkAll ds ≤ 1048576)
def OpenSpec.upto (s : _root_.Go.ChangeSpec) : _root_.Go.OpenSpec := { _root_.Go.OpenSpec.ofChange s with cond := some uptoSmall }

/-- 'laws.FnHostShare', WHERE WHAT IT READS IS OF BULK AT MOST 1048576: true; the input reads as it did. -/
def fnHostShareUptoRow : OpenClaim := { program := "ytkjabgefacfpfaa", sum := "131c90196b84c757249dbb99224f1bec9c051a33a7cc8a3b4e9dc806175900d5", func := "loop.example/guesthouse/laws.FnHostShare", spec := "fnHostShare", apart := false, narrowed := true }
def FnHostShareUptoSaid : Prop := fnHostShareUptoRow.holds Try.pinned (OpenSpec.upto fnHostShareSpec)

/-- 'laws.FnHostZero', WHERE WHAT IT READS IS OF BULK AT MOST 1048576: true; the input reads as it did. -/
def fnHostZeroUptoRow : OpenClaim := { program := "ytkjabgefacfpfaa", sum := "131c90196b84c757249dbb99224f1bec9c051a33a7cc8a3b4e9dc806175900d5", func := "loop.example/guesthouse/laws.FnHostZero", spec := "fnHostZero", apart := false, narrowed := true }
def FnHostZeroUptoSaid : Prop := fnHostZeroUptoRow.holds Try.pinned (OpenSpec.upto fnHostZeroSpec)

/-- 'laws.FnExactHostShare', WHERE WHAT IT READS IS OF BULK AT MOST 1048576: true; the input reads as it did. -/
def fnExactHostShareUptoRow : OpenClaim := { program := "ytkjabgefacfpfaa", sum := "131c90196b84c757249dbb99224f1bec9c051a33a7cc8a3b4e9dc806175900d5", func := "loop.example/guesthouse/laws.FnExactHostShare", spec := "fnExactHostShare", apart := false, narrowed := true }
def FnExactHostShareUptoSaid : Prop := fnExactHostShareUptoRow.holds Try.pinned (OpenSpec.upto fnExactHostShareSpec)

/-- 'laws.FnExactHostZero', WHERE WHAT IT READS IS OF BULK AT MOST 1048576: true; the input reads as it did. -/
def fnExactHostZeroUptoRow : OpenClaim := { program := "ytkjabgefacfpfaa", sum := "131c90196b84c757249dbb99224f1bec9c051a33a7cc8a3b4e9dc806175900d5", func := "loop.example/guesthouse/laws.FnExactHostZero", spec := "fnExactHostZero", apart := false, narrowed := true }
def FnExactHostZeroUptoSaid : Prop := fnExactHostZeroUptoRow.holds Try.pinned (OpenSpec.upto fnExactHostZeroSpec)

/-- 'laws.FnTagsOk', WHERE WHAT IT READS IS OF BULK AT MOST 1048576: true; the input reads as it did. -/
def fnTagsOkUptoRow : OpenClaim := { program := "ytkjabgefacfpfaa", sum := "131c90196b84c757249dbb99224f1bec9c051a33a7cc8a3b4e9dc806175900d5", func := "loop.example/guesthouse/laws.FnTagsOk", spec := "fnTagsOk", apart := false, narrowed := true }
def FnTagsOkUptoSaid : Prop := fnTagsOkUptoRow.holds Try.pinned (OpenSpec.upto fnTagsOkSpec)

/-- 'laws.FnTagWalk', WHERE WHAT IT READS IS OF BULK AT MOST 1048576: true; the input reads as it did. -/
def fnTagWalkUptoRow : OpenClaim := { program := "ytkjabgefacfpfaa", sum := "131c90196b84c757249dbb99224f1bec9c051a33a7cc8a3b4e9dc806175900d5", func := "loop.example/guesthouse/laws.FnTagWalk", spec := "fnTagWalk", apart := false, narrowed := true }
def FnTagWalkUptoSaid : Prop := fnTagWalkUptoRow.holds Try.pinned (OpenSpec.upto fnTagWalkSpec)

/-- 'laws.FnTagDrop', WHERE WHAT IT READS IS OF BULK AT MOST 1048576: true; the input reads as it did. -/
def fnTagDropUptoRow : OpenClaim := { program := "ytkjabgefacfpfaa", sum := "131c90196b84c757249dbb99224f1bec9c051a33a7cc8a3b4e9dc806175900d5", func := "loop.example/guesthouse/laws.FnTagDrop", spec := "fnTagDrop", apart := false, narrowed := true }
def FnTagDropUptoSaid : Prop := fnTagDropUptoRow.holds Try.pinned (OpenSpec.upto fnTagDropSpec)

end Rows
end Go.Proofs.Ytkjabgefacfpfaa
