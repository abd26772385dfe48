/-
  No cell of these rows narrows 'for every input' (looked for: loops, veiled, ifaces, maps, wideKeys, modest, calm, conditions, laid).
  DERIVED. THE GIVEN ROWS OF THIS SEAT. 7 by the template 'for every input the law returns true; each argument reads behind the call as it read before'; 0 by the template 'total and deterministic' (their statements: YtogfcdondojfeaaTotals.lean).
  GIVEN WITH THE SEED: the statements are not yours to turn. If you find one false, say at which input.
  Laid BY PROGRAM, IN A SANDBOX (cutbox-rows.mjs): the forced cells as the released guide's own fill.sh prints them over the translation 09f7cb02d552d3b5… (all of the seat's roots in one cut). By AI agents, Wed Nov 11 2026. No macro, syntax, notation, axiom, sorry.
-/
import Derived.Test.YtogfcdondojfeaaChecked
import GoSem.Claim
import GoSem.ClaimJoined
import GoSem.ClaimMapViews
import Derived.JoinedTies
import Derived.KernelRfl
namespace Go.Proofs.Ytogfcdondojfeaa
/- THE CELL 'sum', in the pinned program and in every row, IS THE sha256 OF THE DUMP (.gsa) THAT YtogfcdondojfeaaProg.lean LOADS. Nothing in Lean hashes anything: it is a label: what it is worth is what the hold of that sum in a sandbox is worth. -/
noncomputable def Try.pinned : Pinned := { name := "ytogfcdondojfeaa", sum := "09f7cb02d552d3b5176fbcd4a6b027e21368d860aa0505f3b25996dd9043f3ae", checked := Try.checked }
namespace Rows
def none {H : Type} : Left H := { results := [], args := [] }

/-- 'laws.FnTagsOk': WHATEVER THE INPUT: true; the input reads as it did. -/
def fnTagsOkSpec : ChangeSpec := { name := "fnTagsOk", fn := fun _ => fun
  | [d] => { results := [.lit (.bool true)], args := [d] }
  | _ => none }
def fnTagsOkRow : OpenClaim := { program := "ytogfcdondojfeaa", sum := "09f7cb02d552d3b5176fbcd4a6b027e21368d860aa0505f3b25996dd9043f3ae", func := "loop.example/guesthouse/laws.FnTagsOk", spec := "fnTagsOk", apart := false }
def FnTagsOkSaid : Prop := fnTagsOkRow.holds Try.pinned (OpenSpec.ofChange fnTagsOkSpec)

/-- ITS FALSE NEIGHBOUR: 'it returns false'. Refute it at one input. -/
def fnTagsOkWrong : ChangeSpec := { name := "fnTagsOk", fn := fun _ => fun
  | [d] => { results := [.lit (.bool false)], args := [d] }
  | _ => none }
def FnTagsOkWrongFalsely : Prop := fnTagsOkRow.holds Try.pinned (OpenSpec.ofChange fnTagsOkWrong)

/-- 'laws.FnTagWalk': WHATEVER THE INPUT: true; the input reads as it did. -/
def fnTagWalkSpec : ChangeSpec := { name := "fnTagWalk", fn := fun _ => fun
  | [d] => { results := [.lit (.bool true)], args := [d] }
  | _ => none }
def fnTagWalkRow : OpenClaim := { program := "ytogfcdondojfeaa", sum := "09f7cb02d552d3b5176fbcd4a6b027e21368d860aa0505f3b25996dd9043f3ae", func := "loop.example/guesthouse/laws.FnTagWalk", spec := "fnTagWalk", apart := false }
def FnTagWalkSaid : Prop := fnTagWalkRow.holds Try.pinned (OpenSpec.ofChange fnTagWalkSpec)

/-- ITS FALSE NEIGHBOUR: 'it returns false'. Refute it at one input. -/
def fnTagWalkWrong : ChangeSpec := { name := "fnTagWalk", fn := fun _ => fun
  | [d] => { results := [.lit (.bool false)], args := [d] }
  | _ => none }
def FnTagWalkWrongFalsely : Prop := fnTagWalkRow.holds Try.pinned (OpenSpec.ofChange fnTagWalkWrong)

/-- 'laws.FnTagDrop': WHATEVER THE INPUT: true; the input reads as it did. -/
def fnTagDropSpec : ChangeSpec := { name := "fnTagDrop", fn := fun _ => fun
  | [d] => { results := [.lit (.bool true)], args := [d] }
  | _ => none }
def fnTagDropRow : OpenClaim := { program := "ytogfcdondojfeaa", sum := "09f7cb02d552d3b5176fbcd4a6b027e21368d860aa0505f3b25996dd9043f3ae", func := "loop.example/guesthouse/laws.FnTagDrop", spec := "fnTagDrop", apart := false }
def FnTagDropSaid : Prop := fnTagDropRow.holds Try.pinned (OpenSpec.ofChange fnTagDropSpec)

/-- ITS FALSE NEIGHBOUR: 'it returns false'. Refute it at one input. -/
def fnTagDropWrong : ChangeSpec := { name := "fnTagDrop", fn := fun _ => fun
  | [d] => { results := [.lit (.bool false)], args := [d] }
  | _ => none }
def FnTagDropWrongFalsely : Prop := fnTagDropRow.holds Try.pinned (OpenSpec.ofChange fnTagDropWrong)

/-- 'laws.FnTurnsOf': WHATEVER THE INPUT: true; the input reads as it did. -/
def fnTurnsOfSpec : ChangeSpec := { name := "fnTurnsOf", fn := fun _ => fun
  | [d] => { results := [.lit (.bool true)], args := [d] }
  | _ => none }
def fnTurnsOfRow : OpenClaim := { program := "ytogfcdondojfeaa", sum := "09f7cb02d552d3b5176fbcd4a6b027e21368d860aa0505f3b25996dd9043f3ae", func := "loop.example/guesthouse/laws.FnTurnsOf", spec := "fnTurnsOf", apart := false }
def FnTurnsOfSaid : Prop := fnTurnsOfRow.holds Try.pinned (OpenSpec.ofChange fnTurnsOfSpec)

/-- ITS FALSE NEIGHBOUR: 'it returns false'. Refute it at one input. -/
def fnTurnsOfWrong : ChangeSpec := { name := "fnTurnsOf", fn := fun _ => fun
  | [d] => { results := [.lit (.bool false)], args := [d] }
  | _ => none }
def FnTurnsOfWrongFalsely : Prop := fnTurnsOfRow.holds Try.pinned (OpenSpec.ofChange fnTurnsOfWrong)

/-- 'laws.FnFairTurns': WHATEVER THE INPUT: true; the input reads as it did. -/
def fnFairTurnsSpec : ChangeSpec := { name := "fnFairTurns", fn := fun _ => fun
  | [d] => { results := [.lit (.bool true)], args := [d] }
  | _ => none }
def fnFairTurnsRow : OpenClaim := { program := "ytogfcdondojfeaa", sum := "09f7cb02d552d3b5176fbcd4a6b027e21368d860aa0505f3b25996dd9043f3ae", func := "loop.example/guesthouse/laws.FnFairTurns", spec := "fnFairTurns", apart := false }
def FnFairTurnsSaid : Prop := fnFairTurnsRow.holds Try.pinned (OpenSpec.ofChange fnFairTurnsSpec)

/-- ITS FALSE NEIGHBOUR: 'it returns false'. Refute it at one input. -/
def fnFairTurnsWrong : ChangeSpec := { name := "fnFairTurns", fn := fun _ => fun
  | [d] => { results := [.lit (.bool false)], args := [d] }
  | _ => none }
def FnFairTurnsWrongFalsely : Prop := fnFairTurnsRow.holds Try.pinned (OpenSpec.ofChange fnFairTurnsWrong)

/-- 'laws.FnExactTurnsOf': WHATEVER THE INPUT: true; the input reads as it did. -/
def fnExactTurnsOfSpec : ChangeSpec := { name := "fnExactTurnsOf", fn := fun _ => fun
  | [d1, d2] => { results := [.lit (.bool true)], args := [d1, d2] }
  | _ => none }
def fnExactTurnsOfRow : OpenClaim := { program := "ytogfcdondojfeaa", sum := "09f7cb02d552d3b5176fbcd4a6b027e21368d860aa0505f3b25996dd9043f3ae", func := "loop.example/guesthouse/laws.FnExactTurnsOf", spec := "fnExactTurnsOf", apart := false }
def FnExactTurnsOfSaid : Prop := fnExactTurnsOfRow.holds Try.pinned (OpenSpec.ofChange fnExactTurnsOfSpec)

/-- ITS FALSE NEIGHBOUR: 'it returns false'. Refute it at one input. -/
def fnExactTurnsOfWrong : ChangeSpec := { name := "fnExactTurnsOf", fn := fun _ => fun
  | [d1, d2] => { results := [.lit (.bool false)], args := [d1, d2] }
  | _ => none }
def FnExactTurnsOfWrongFalsely : Prop := fnExactTurnsOfRow.holds Try.pinned (OpenSpec.ofChange fnExactTurnsOfWrong)

/-- 'laws.FnExactFairTurns': WHATEVER THE INPUT: true; the input reads as it did. -/
def fnExactFairTurnsSpec : ChangeSpec := { name := "fnExactFairTurns", fn := fun _ => fun
  | [d1, d2] => { results := [.lit (.bool true)], args := [d1, d2] }
  | _ => none }
def fnExactFairTurnsRow : OpenClaim := { program := "ytogfcdondojfeaa", sum := "09f7cb02d552d3b5176fbcd4a6b027e21368d860aa0505f3b25996dd9043f3ae", func := "loop.example/guesthouse/laws.FnExactFairTurns", spec := "fnExactFairTurns", apart := false }
def FnExactFairTurnsSaid : Prop := fnExactFairTurnsRow.holds Try.pinned (OpenSpec.ofChange fnExactFairTurnsSpec)

/-- ITS FALSE NEIGHBOUR: 'it returns false'. Refute it at one input. -/
def fnExactFairTurnsWrong : ChangeSpec := { name := "fnExactFairTurns", fn := fun _ => fun
  | [d1, d2] => { results := [.lit (.bool false)], args := [d1, d2] }
  | _ => none }
def FnExactFairTurnsWrongFalsely : Prop := fnExactFairTurnsRow.holds Try.pinned (OpenSpec.ofChange fnExactFairTurnsWrong)

/- THE SECOND FORM. 'bulk': how many values and letters a reading holds, each counted each time it is reached (what is shared counts as often as it is met; a slice's spare places count too). A statement '..UptoSaid' is the law's where the arguments, and the package variables that the reading takes, are together of bulk at most 1048576: NARROWER than '..Said'. Prove '..Said' where nothing that the law and all that it calls make is longer than what came in: it says more and counts as full. Else prove '..UptoSaid'. A law counts once. -/
mutual
def uptoBulk {H : Type} : DataW H → Nat
  | .lit (.string bytes) => bytes.length + 1
  | .lit _ => 1
  | .nil => 1
  | .ptr d => uptoBulk d + 1
  | .slice elems spare => uptoBulkAll elems + uptoBulkAll spare + 1
  | .agg parts => uptoBulkAll parts + 1
  | .iface _ d => uptoBulk d + 1
  | .map entries => uptoBulkEntries entries + 1
  | .held _ => 1
def uptoBulkAll {H : Type} : List (DataW H) → Nat
  | [] => 0
  | d :: r => uptoBulk d + uptoBulkAll r
def uptoBulkEntries {H : Type} : List (Lit × DataW H) → Nat
  | [] => 0
  | x :: r => uptoBulkEntry x + uptoBulkEntries r
def uptoBulkEntry {H : Type} : Lit × DataW H → Nat
  | (.string bytes, d) => bytes.length + uptoBulk d + 1
  | (_, d) => uptoBulk d + 1
 end
def uptoSmall : (H : Type) → List (DataW H) → Bool := fun _ ds => decide (uptoBulkAll ds ≤ 1048576)
def OpenSpec.upto (s : _root_.Go.ChangeSpec) : _root_.Go.OpenSpec := { _root_.Go.OpenSpec.ofChange s with cond := some uptoSmall }

/-- 'laws.FnTagsOk', WHERE WHAT IT READS IS OF BULK AT MOST 1048576: true; the input reads as it did. -/
def fnTagsOkUptoRow : OpenClaim := { program := "ytogfcdondojfeaa", sum := "09f7cb02d552d3b5176fbcd4a6b027e21368d860aa0505f3b25996dd9043f3ae", func := "loop.example/guesthouse/laws.FnTagsOk", spec := "fnTagsOk", apart := false, narrowed := true }
def FnTagsOkUptoSaid : Prop := fnTagsOkUptoRow.holds Try.pinned (OpenSpec.upto fnTagsOkSpec)

/-- 'laws.FnTagWalk', WHERE WHAT IT READS IS OF BULK AT MOST 1048576: true; the input reads as it did. -/
def fnTagWalkUptoRow : OpenClaim := { program := "ytogfcdondojfeaa", sum := "09f7cb02d552d3b5176fbcd4a6b027e21368d860aa0505f3b25996dd9043f3ae", func := "loop.example/guesthouse/laws.FnTagWalk", spec := "fnTagWalk", apart := false, narrowed := true }
def FnTagWalkUptoSaid : Prop := fnTagWalkUptoRow.holds Try.pinned (OpenSpec.upto fnTagWalkSpec)

/-- 'laws.FnTagDrop', WHERE WHAT IT READS IS OF BULK AT MOST 1048576: true; the input reads as it did. -/
def fnTagDropUptoRow : OpenClaim := { program := "ytogfcdondojfeaa", sum := "09f7cb02d552d3b5176fbcd4a6b027e21368d860aa0505f3b25996dd9043f3ae", func := "loop.example/guesthouse/laws.FnTagDrop", spec := "fnTagDrop", apart := false, narrowed := true }
def FnTagDropUptoSaid : Prop := fnTagDropUptoRow.holds Try.pinned (OpenSpec.upto fnTagDropSpec)

/-- 'laws.FnTurnsOf', WHERE WHAT IT READS IS OF BULK AT MOST 1048576: true; the input reads as it did. -/
def fnTurnsOfUptoRow : OpenClaim := { program := "ytogfcdondojfeaa", sum := "09f7cb02d552d3b5176fbcd4a6b027e21368d860aa0505f3b25996dd9043f3ae", func := "loop.example/guesthouse/laws.FnTurnsOf", spec := "fnTurnsOf", apart := false, narrowed := true }
def FnTurnsOfUptoSaid : Prop := fnTurnsOfUptoRow.holds Try.pinned (OpenSpec.upto fnTurnsOfSpec)

/-- 'laws.FnFairTurns', WHERE WHAT IT READS IS OF BULK AT MOST 1048576: true; the input reads as it did. -/
def fnFairTurnsUptoRow : OpenClaim := { program := "ytogfcdondojfeaa", sum := "09f7cb02d552d3b5176fbcd4a6b027e21368d860aa0505f3b25996dd9043f3ae", func := "loop.example/guesthouse/laws.FnFairTurns", spec := "fnFairTurns", apart := false, narrowed := true }
def FnFairTurnsUptoSaid : Prop := fnFairTurnsUptoRow.holds Try.pinned (OpenSpec.upto fnFairTurnsSpec)

/-- 'laws.FnExactTurnsOf', WHERE WHAT IT READS IS OF BULK AT MOST 1048576: true; the input reads as it did. -/
def fnExactTurnsOfUptoRow : OpenClaim := { program := "ytogfcdondojfeaa", sum := "09f7cb02d552d3b5176fbcd4a6b027e21368d860aa0505f3b25996dd9043f3ae", func := "loop.example/guesthouse/laws.FnExactTurnsOf", spec := "fnExactTurnsOf", apart := false, narrowed := true }
def FnExactTurnsOfUptoSaid : Prop := fnExactTurnsOfUptoRow.holds Try.pinned (OpenSpec.upto fnExactTurnsOfSpec)

/-- 'laws.FnExactFairTurns', WHERE WHAT IT READS IS OF BULK AT MOST 1048576: true; the input reads as it did. -/
def fnExactFairTurnsUptoRow : OpenClaim := { program := "ytogfcdondojfeaa", sum := "09f7cb02d552d3b5176fbcd4a6b027e21368d860aa0505f3b25996dd9043f3ae", func := "loop.example/guesthouse/laws.FnExactFairTurns", spec := "fnExactFairTurns", apart := false, narrowed := true }
def FnExactFairTurnsUptoSaid : Prop := fnExactFairTurnsUptoRow.holds Try.pinned (OpenSpec.upto fnExactFairTurnsSpec)

end Rows
end Go.Proofs.Ytogfcdondojfeaa
