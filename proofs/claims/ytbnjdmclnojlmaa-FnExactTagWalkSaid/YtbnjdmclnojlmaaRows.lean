/-
  No cell of these rows narrows 'for every input' (looked for: loops, veiled, ifaces, maps, wideKeys, modest, calm, conditions, laid).
  DERIVED. THE GIVEN ROWS OF THIS SEAT. 6 by the template 'for every input the law returns true; each argument reads behind the call as it read before'; 0 by the template 'total and deterministic' (their statements: YtbnjdmclnojlmaaTotals.lean).
  GIVEN WITH THE SEED: the statements are not yours to turn. If you find one false, say at which input.
  Laid BY PROGRAM, IN A SANDBOX (cutbox-rows.mjs): the forced cells as the released guide's own fill.sh prints them over the translation cb6374da9664d25d… (all of the seat's roots in one cut). By AI agents, Wed Nov 11 2026. No macro, syntax, notation, axiom, sorry.
-/
import Derived.Test.YtbnjdmclnojlmaaChecked
import GoSem.Claim
import GoSem.ClaimJoined
import GoSem.ClaimMapViews
import Derived.JoinedTies
import Derived.KernelRfl
namespace Go.Proofs.Ytbnjdmclnojlmaa
/- THE CELL 'sum', in the pinned program and in every row, IS THE sha256 OF THE DUMP (.gsa) THAT YtbnjdmclnojlmaaProg.lean LOADS. Nothing in Lean hashes anything: it is a label: what it is worth is what the hold of that sum in a sandbox is worth. -/
noncomputable def Try.pinned : Pinned := { name := "ytbnjdmclnojlmaa", sum := "cb6374da9664d25d3bdb946fba9769b2cb8ea37046715501e4eef3b4005b870e", checked := Try.checked }
namespace Rows
def none {H : Type} : Left H := { results := [], args := [] }

/-- 'laws.FnTagsOk': WHATEVER THE INPUT: true; the input reads as it did. -/
def fnTagsOkSpec : ChangeSpec := { name := "fnTagsOk", fn := fun _ => fun
  | [d] => { results := [.lit (.bool true)], args := [d] }
  | _ => none }
def fnTagsOkRow : OpenClaim := { program := "ytbnjdmclnojlmaa", sum := "cb6374da9664d25d3bdb946fba9769b2cb8ea37046715501e4eef3b4005b870e", func := "loop.example/guesthouse/laws.FnTagsOk", spec := "fnTagsOk", apart := false }
def FnTagsOkSaid : Prop := fnTagsOkRow.holds Try.pinned (OpenSpec.ofChange fnTagsOkSpec)

/-- ITS FALSE NEIGHBOUR: 'it returns false'. Refute it at one input. -/
def fnTagsOkWrong : ChangeSpec := { name := "fnTagsOk", fn := fun _ => fun
  | [d] => { results := [.lit (.bool false)], args := [d] }
  | _ => none }
def FnTagsOkWrongFalsely : Prop := fnTagsOkRow.holds Try.pinned (OpenSpec.ofChange fnTagsOkWrong)

/-- 'laws.FnTagWalk': WHATEVER THE INPUT: true; the input reads as it did. -/
def fnTagWalkSpec : ChangeSpec := { name := "fnTagWalk", fn := fun _ => fun
  | [d] => { results := [.lit (.bool true)], args := [d] }
  | _ => none }
def fnTagWalkRow : OpenClaim := { program := "ytbnjdmclnojlmaa", sum := "cb6374da9664d25d3bdb946fba9769b2cb8ea37046715501e4eef3b4005b870e", func := "loop.example/guesthouse/laws.FnTagWalk", spec := "fnTagWalk", apart := false }
def FnTagWalkSaid : Prop := fnTagWalkRow.holds Try.pinned (OpenSpec.ofChange fnTagWalkSpec)

/-- ITS FALSE NEIGHBOUR: 'it returns false'. Refute it at one input. -/
def fnTagWalkWrong : ChangeSpec := { name := "fnTagWalk", fn := fun _ => fun
  | [d] => { results := [.lit (.bool false)], args := [d] }
  | _ => none }
def FnTagWalkWrongFalsely : Prop := fnTagWalkRow.holds Try.pinned (OpenSpec.ofChange fnTagWalkWrong)

/-- 'laws.FnTagDrop': WHATEVER THE INPUT: true; the input reads as it did. -/
def fnTagDropSpec : ChangeSpec := { name := "fnTagDrop", fn := fun _ => fun
  | [d] => { results := [.lit (.bool true)], args := [d] }
  | _ => none }
def fnTagDropRow : OpenClaim := { program := "ytbnjdmclnojlmaa", sum := "cb6374da9664d25d3bdb946fba9769b2cb8ea37046715501e4eef3b4005b870e", func := "loop.example/guesthouse/laws.FnTagDrop", spec := "fnTagDrop", apart := false }
def FnTagDropSaid : Prop := fnTagDropRow.holds Try.pinned (OpenSpec.ofChange fnTagDropSpec)

/-- ITS FALSE NEIGHBOUR: 'it returns false'. Refute it at one input. -/
def fnTagDropWrong : ChangeSpec := { name := "fnTagDrop", fn := fun _ => fun
  | [d] => { results := [.lit (.bool false)], args := [d] }
  | _ => none }
def FnTagDropWrongFalsely : Prop := fnTagDropRow.holds Try.pinned (OpenSpec.ofChange fnTagDropWrong)

/-- 'laws.FnExactTagsOk': WHATEVER THE INPUT: true; the input reads as it did. -/
def fnExactTagsOkSpec : ChangeSpec := { name := "fnExactTagsOk", fn := fun _ => fun
  | [d1, d2] => { results := [.lit (.bool true)], args := [d1, d2] }
  | _ => none }
def fnExactTagsOkRow : OpenClaim := { program := "ytbnjdmclnojlmaa", sum := "cb6374da9664d25d3bdb946fba9769b2cb8ea37046715501e4eef3b4005b870e", func := "loop.example/guesthouse/laws.FnExactTagsOk", spec := "fnExactTagsOk", apart := false }
def FnExactTagsOkSaid : Prop := fnExactTagsOkRow.holds Try.pinned (OpenSpec.ofChange fnExactTagsOkSpec)

/-- ITS FALSE NEIGHBOUR: 'it returns false'. Refute it at one input. -/
def fnExactTagsOkWrong : ChangeSpec := { name := "fnExactTagsOk", fn := fun _ => fun
  | [d1, d2] => { results := [.lit (.bool false)], args := [d1, d2] }
  | _ => none }
def FnExactTagsOkWrongFalsely : Prop := fnExactTagsOkRow.holds Try.pinned (OpenSpec.ofChange fnExactTagsOkWrong)

/-- 'laws.FnExactTagWalk': WHATEVER THE INPUT: true; the input reads as it did. -/
def fnExactTagWalkSpec : ChangeSpec := { name := "fnExactTagWalk", fn := fun _ => fun
  | [d1, d2, d3, d4, d5, d6] => { results := [.lit (.bool true)], args := [d1, d2, d3, d4, d5, d6] }
  | _ => none }
def fnExactTagWalkRow : OpenClaim := { program := "ytbnjdmclnojlmaa", sum := "cb6374da9664d25d3bdb946fba9769b2cb8ea37046715501e4eef3b4005b870e", func := "loop.example/guesthouse/laws.FnExactTagWalk", spec := "fnExactTagWalk", apart := false }
def FnExactTagWalkSaid : Prop := fnExactTagWalkRow.holds Try.pinned (OpenSpec.ofChange fnExactTagWalkSpec)

/-- ITS FALSE NEIGHBOUR: 'it returns false'. Refute it at one input. -/
def fnExactTagWalkWrong : ChangeSpec := { name := "fnExactTagWalk", fn := fun _ => fun
  | [d1, d2, d3, d4, d5, d6] => { results := [.lit (.bool false)], args := [d1, d2, d3, d4, d5, d6] }
  | _ => none }
def FnExactTagWalkWrongFalsely : Prop := fnExactTagWalkRow.holds Try.pinned (OpenSpec.ofChange fnExactTagWalkWrong)

/-- 'laws.FnExactTagDrop': WHATEVER THE INPUT: true; the input reads as it did. -/
def fnExactTagDropSpec : ChangeSpec := { name := "fnExactTagDrop", fn := fun _ => fun
  | [d1, d2] => { results := [.lit (.bool true)], args := [d1, d2] }
  | _ => none }
def fnExactTagDropRow : OpenClaim := { program := "ytbnjdmclnojlmaa", sum := "cb6374da9664d25d3bdb946fba9769b2cb8ea37046715501e4eef3b4005b870e", func := "loop.example/guesthouse/laws.FnExactTagDrop", spec := "fnExactTagDrop", apart := false }
def FnExactTagDropSaid : Prop := fnExactTagDropRow.holds Try.pinned (OpenSpec.ofChange fnExactTagDropSpec)

/-- ITS FALSE NEIGHBOUR: 'it returns false'. Refute it at one input. -/
def fnExactTagDropWrong : ChangeSpec := { name := "fnExactTagDrop", fn := fun _ => fun
  | [d1, d2] => { results := [.lit (.bool false)], args := [d1, d2] }
  | _ => none }
def FnExactTagDropWrongFalsely : Prop := fnExactTagDropRow.holds Try.pinned (OpenSpec.ofChange fnExactTagDropWrong)

/- THE SECOND FORM. 'bulk': how many values and letters a reading holds, each counted each time it is reached (what is shared counts as often as it is met; a slice's spare places count too). A statement '..UptoSaid' is the law's where the arguments, and the package variables that the reading takes, are together of bulk at most 1048576: NARROWER than '..Said'. Prove '..Said' where nothing that the law and all that it calls make is longer than what came in: it says more and counts as full. Else prove '..UptoSaid'. A law counts once. -/
mutual
def uptoBulk {H : Type} : DataW H → Nat
  | .lit (.string bytes) => bytes.length + 1
  | .lit _ => 1
  | .nil => 1
  | .ptr d => uptoBulk d + 1
  | .slice elems spare => uptoBulkAll elems + uptoBulkAll spare + 1
  | .agg parts => uptoBulkAll parts + 1
  | .iface _ d => uptoBulk d + 1
  | .map entries => uptoBulkEntries entries + 1
  | .held _ => 1
def uptoBulkAll {H : Type} : List (DataW H) → Nat
  | [] => 0
  | d :: r => uptoBulk d + uptoBulkAll r
def uptoBulkEntries {H : Type} : List (Lit × DataW H) → Nat
  | [] => 0
  | x :: r => uptoBulkEntry x + uptoBulkEntries r
def uptoBulkEntry {H : Type} : Lit × DataW H → Nat
  | (.string bytes, d) => bytes.length + uptoBulk d + 1
  | (_, d) => uptoBulk d + 1
 end
def uptoSmall : (H : Type) → List (DataW H) → Bool := fun _ ds => decide (uptoBulkAll ds ≤ 1048576)
def OpenSpec.upto (s : _root_.Go.ChangeSpec) : _root_.Go.OpenSpec := { _root_.Go.OpenSpec.ofChange s with cond := some uptoSmall }

/-- 'laws.FnTagsOk', WHERE WHAT IT READS IS OF BULK AT MOST 1048576: true; the input reads as it did. -/
def fnTagsOkUptoRow : OpenClaim := { program := "ytbnjdmclnojlmaa", sum := "cb6374da9664d25d3bdb946fba9769b2cb8ea37046715501e4eef3b4005b870e", func := "loop.example/guesthouse/laws.FnTagsOk", spec := "fnTagsOk", apart := false, narrowed := true }
def FnTagsOkUptoSaid : Prop := fnTagsOkUptoRow.holds Try.pinned (OpenSpec.upto fnTagsOkSpec)

/-- 'laws.FnTagWalk', WHERE WHAT IT READS IS OF BULK AT MOST 1048576: true; the input reads as it did. -/
def fnTagWalkUptoRow : OpenClaim := { program := "ytbnjdmclnojlmaa", sum := "cb6374da9664d25d3bdb946fba9769b2cb8ea37046715501e4eef3b4005b870e", func := "loop.example/guesthouse/laws.FnTagWalk", spec := "fnTagWalk", apart := false, narrowed := true }
def FnTagWalkUptoSaid : Prop := fnTagWalkUptoRow.holds Try.pinned (OpenSpec.upto fnTagWalkSpec)

/-- 'laws.FnTagDrop', WHERE WHAT IT READS IS OF BULK AT MOST 1048576: true; the input reads as it did. -/
def fnTagDropUptoRow : OpenClaim := { program := "ytbnjdmclnojlmaa", sum := "cb6374da9664d25d3bdb946fba9769b2cb8ea37046715501e4eef3b4005b870e", func := "loop.example/guesthouse/laws.FnTagDrop", spec := "fnTagDrop", apart := false, narrowed := true }
def FnTagDropUptoSaid : Prop := fnTagDropUptoRow.holds Try.pinned (OpenSpec.upto fnTagDropSpec)

/-- 'laws.FnExactTagsOk', WHERE WHAT IT READS IS OF BULK AT MOST 1048576: true; the input reads as it did. -/
def fnExactTagsOkUptoRow : OpenClaim := { program := "ytbnjdmclnojlmaa", sum := "cb6374da9664d25d3bdb946fba9769b2cb8ea37046715501e4eef3b4005b870e", func := "loop.example/guesthouse/laws.FnExactTagsOk", spec := "fnExactTagsOk", apart := false, narrowed := true }
def FnExactTagsOkUptoSaid : Prop := fnExactTagsOkUptoRow.holds Try.pinned (OpenSpec.upto fnExactTagsOkSpec)

/-- 'laws.FnExactTagWalk', WHERE WHAT IT READS IS OF BULK AT MOST 1048576: true; the input reads as it did. -/
def fnExactTagWalkUptoRow : OpenClaim := { program := "ytbnjdmclnojlmaa", sum := "cb6374da9664d25d3bdb946fba9769b2cb8ea37046715501e4eef3b4005b870e", func := "loop.example/guesthouse/laws.FnExactTagWalk", spec := "fnExactTagWalk", apart := false, narrowed := true }
def FnExactTagWalkUptoSaid : Prop := fnExactTagWalkUptoRow.holds Try.pinned (OpenSpec.upto fnExactTagWalkSpec)

/-- 'laws.FnExactTagDrop', WHERE WHAT IT READS IS OF BULK AT MOST 1048576: true; the input reads as it did. -/
def fnExactTagDropUptoRow : OpenClaim := { program := "ytbnjdmclnojlmaa", sum := "cb6374da9664d25d3bdb946fba9769b2cb8ea37046715501e4eef3b4005b870e", func := "loop.example/guesthouse/laws.FnExactTagDrop", spec := "fnExactTagDrop", apart := false, narrowed := true }
def FnExactTagDropUptoSaid : Prop := fnExactTagDropUptoRow.holds Try.pinned (OpenSpec.upto fnExactTagDropSpec)

end Rows
end Go.Proofs.Ytbnjdmclnojlmaa
