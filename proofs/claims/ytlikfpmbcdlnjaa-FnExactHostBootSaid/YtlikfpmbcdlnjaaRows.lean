/-
  No cell of these rows narrows 'for every input' (looked for: loops, veiled, ifaces, maps, wideKeys, modest, calm, conditions, laid).
  DERIVED. THE GIVEN ROWS OF THIS SEAT. 14 by the template 'for every input the law returns true; each argument reads behind the call as it read before'; 0 by the template 'total and deterministic' (their statements: YtlikfpmbcdlnjaaTotals.lean).
  GIVEN WITH THE SEED: the statements are not yours to turn. If you find one false, say at which input.
  Laid BY PROGRAM, IN A SANDBOX (cutbox-rows.mjs): the forced cells as the released guide's own fill.sh prints them over the translation 65f95c94e8af282f… (all of the seat's roots in one cut). By AI agents, Wed Nov 11 2026. No macro, syntax, notation, axiom, sorry.
-/
import Derived.Test.YtlikfpmbcdlnjaaChecked
import GoSem.Claim
import GoSem.ClaimJoined
import GoSem.ClaimMapViews
import Derived.JoinedTies
import Derived.KernelRfl
namespace Go.Proofs.Ytlikfpmbcdlnjaa
/- THE CELL 'sum', in the pinned program and in every row, IS THE sha256 OF THE DUMP (.gsa) THAT YtlikfpmbcdlnjaaProg.lean LOADS. Nothing in Lean hashes anything: it is a label: what it is worth is what the hold of that sum in a sandbox is worth. -/
noncomputable def Try.pinned : Pinned := { name := "ytlikfpmbcdlnjaa", sum := "65f95c94e8af282fc3407b1bcf729843aed73baccd5bad1a9846af7766bbba9f", checked := Try.checked }
namespace Rows
def none {H : Type} : Left H := { results := [], args := [] }

/-- 'laws.FnHostBoot': WHATEVER THE INPUT: true; the input reads as it did. -/
def fnHostBootSpec : ChangeSpec := { name := "fnHostBoot", fn := fun _ => fun
  | [d] => { results := [.lit (.bool true)], args := [d] }
  | _ => none }
def fnHostBootRow : OpenClaim := { program := "ytlikfpmbcdlnjaa", sum := "65f95c94e8af282fc3407b1bcf729843aed73baccd5bad1a9846af7766bbba9f", func := "loop.example/guesthouse/laws.FnHostBoot", spec := "fnHostBoot", apart := false }
def FnHostBootSaid : Prop := fnHostBootRow.holds Try.pinned (OpenSpec.ofChange fnHostBootSpec)

/-- ITS FALSE NEIGHBOUR: 'it returns false'. Refute it at one input. -/
def fnHostBootWrong : ChangeSpec := { name := "fnHostBoot", fn := fun _ => fun
  | [d] => { results := [.lit (.bool false)], args := [d] }
  | _ => none }
def FnHostBootWrongFalsely : Prop := fnHostBootRow.holds Try.pinned (OpenSpec.ofChange fnHostBootWrong)

/-- 'laws.FnShadowOf': WHATEVER THE INPUT: true; the input reads as it did. -/
def fnShadowOfSpec : ChangeSpec := { name := "fnShadowOf", fn := fun _ => fun
  | [d] => { results := [.lit (.bool true)], args := [d] }
  | _ => none }
def fnShadowOfRow : OpenClaim := { program := "ytlikfpmbcdlnjaa", sum := "65f95c94e8af282fc3407b1bcf729843aed73baccd5bad1a9846af7766bbba9f", func := "loop.example/guesthouse/laws.FnShadowOf", spec := "fnShadowOf", apart := false }
def FnShadowOfSaid : Prop := fnShadowOfRow.holds Try.pinned (OpenSpec.ofChange fnShadowOfSpec)

/-- ITS FALSE NEIGHBOUR: 'it returns false'. Refute it at one input. -/
def fnShadowOfWrong : ChangeSpec := { name := "fnShadowOf", fn := fun _ => fun
  | [d] => { results := [.lit (.bool false)], args := [d] }
  | _ => none }
def FnShadowOfWrongFalsely : Prop := fnShadowOfRow.holds Try.pinned (OpenSpec.ofChange fnShadowOfWrong)

/-- 'laws.FnShadowWalk': WHATEVER THE INPUT: true; the input reads as it did. -/
def fnShadowWalkSpec : ChangeSpec := { name := "fnShadowWalk", fn := fun _ => fun
  | [d] => { results := [.lit (.bool true)], args := [d] }
  | _ => none }
def fnShadowWalkRow : OpenClaim := { program := "ytlikfpmbcdlnjaa", sum := "65f95c94e8af282fc3407b1bcf729843aed73baccd5bad1a9846af7766bbba9f", func := "loop.example/guesthouse/laws.FnShadowWalk", spec := "fnShadowWalk", apart := false }
def FnShadowWalkSaid : Prop := fnShadowWalkRow.holds Try.pinned (OpenSpec.ofChange fnShadowWalkSpec)

/-- ITS FALSE NEIGHBOUR: 'it returns false'. Refute it at one input. -/
def fnShadowWalkWrong : ChangeSpec := { name := "fnShadowWalk", fn := fun _ => fun
  | [d] => { results := [.lit (.bool false)], args := [d] }
  | _ => none }
def FnShadowWalkWrongFalsely : Prop := fnShadowWalkRow.holds Try.pinned (OpenSpec.ofChange fnShadowWalkWrong)

/-- 'laws.FnHostFill': WHATEVER THE INPUT: true; the input reads as it did. -/
def fnHostFillSpec : ChangeSpec := { name := "fnHostFill", fn := fun _ => fun
  | [d] => { results := [.lit (.bool true)], args := [d] }
  | _ => none }
def fnHostFillRow : OpenClaim := { program := "ytlikfpmbcdlnjaa", sum := "65f95c94e8af282fc3407b1bcf729843aed73baccd5bad1a9846af7766bbba9f", func := "loop.example/guesthouse/laws.FnHostFill", spec := "fnHostFill", apart := false }
def FnHostFillSaid : Prop := fnHostFillRow.holds Try.pinned (OpenSpec.ofChange fnHostFillSpec)

/-- ITS FALSE NEIGHBOUR: 'it returns false'. Refute it at one input. -/
def fnHostFillWrong : ChangeSpec := { name := "fnHostFill", fn := fun _ => fun
  | [d] => { results := [.lit (.bool false)], args := [d] }
  | _ => none }
def FnHostFillWrongFalsely : Prop := fnHostFillRow.holds Try.pinned (OpenSpec.ofChange fnHostFillWrong)

/-- 'laws.FnHostCopy': WHATEVER THE INPUT: true; the input reads as it did. -/
def fnHostCopySpec : ChangeSpec := { name := "fnHostCopy", fn := fun _ => fun
  | [d] => { results := [.lit (.bool true)], args := [d] }
  | _ => none }
def fnHostCopyRow : OpenClaim := { program := "ytlikfpmbcdlnjaa", sum := "65f95c94e8af282fc3407b1bcf729843aed73baccd5bad1a9846af7766bbba9f", func := "loop.example/guesthouse/laws.FnHostCopy", spec := "fnHostCopy", apart := false }
def FnHostCopySaid : Prop := fnHostCopyRow.holds Try.pinned (OpenSpec.ofChange fnHostCopySpec)

/-- ITS FALSE NEIGHBOUR: 'it returns false'. Refute it at one input. -/
def fnHostCopyWrong : ChangeSpec := { name := "fnHostCopy", fn := fun _ => fun
  | [d] => { results := [.lit (.bool false)], args := [d] }
  | _ => none }
def FnHostCopyWrongFalsely : Prop := fnHostCopyRow.holds Try.pinned (OpenSpec.ofChange fnHostCopyWrong)

/-- 'laws.FnExactHostBoot': WHATEVER THE INPUT: true; the input reads as it did. -/
def fnExactHostBootSpec : ChangeSpec := { name := "fnExactHostBoot", fn := fun _ => fun
  | [d1, d2] => { results := [.lit (.bool true)], args := [d1, d2] }
  | _ => none }
def fnExactHostBootRow : OpenClaim := { program := "ytlikfpmbcdlnjaa", sum := "65f95c94e8af282fc3407b1bcf729843aed73baccd5bad1a9846af7766bbba9f", func := "loop.example/guesthouse/laws.FnExactHostBoot", spec := "fnExactHostBoot", apart := false }
def FnExactHostBootSaid : Prop := fnExactHostBootRow.holds Try.pinned (OpenSpec.ofChange fnExactHostBootSpec)

/-- ITS FALSE NEIGHBOUR: 'it returns false'. Refute it at one input. -/
def fnExactHostBootWrong : ChangeSpec := { name := "fnExactHostBoot", fn := fun _ => fun
  | [d1, d2] => { results := [.lit (.bool false)], args := [d1, d2] }
  | _ => none }
def FnExactHostBootWrongFalsely : Prop := fnExactHostBootRow.holds Try.pinned (OpenSpec.ofChange fnExactHostBootWrong)

/-- 'laws.FnExactShadowOf': WHATEVER THE INPUT: true; the input reads as it did. -/
def fnExactShadowOfSpec : ChangeSpec := { name := "fnExactShadowOf", fn := fun _ => fun
  | [d1, d2] => { results := [.lit (.bool true)], args := [d1, d2] }
  | _ => none }
def fnExactShadowOfRow : OpenClaim := { program := "ytlikfpmbcdlnjaa", sum := "65f95c94e8af282fc3407b1bcf729843aed73baccd5bad1a9846af7766bbba9f", func := "loop.example/guesthouse/laws.FnExactShadowOf", spec := "fnExactShadowOf", apart := false }
def FnExactShadowOfSaid : Prop := fnExactShadowOfRow.holds Try.pinned (OpenSpec.ofChange fnExactShadowOfSpec)

/-- ITS FALSE NEIGHBOUR: 'it returns false'. Refute it at one input. -/
def fnExactShadowOfWrong : ChangeSpec := { name := "fnExactShadowOf", fn := fun _ => fun
  | [d1, d2] => { results := [.lit (.bool false)], args := [d1, d2] }
  | _ => none }
def FnExactShadowOfWrongFalsely : Prop := fnExactShadowOfRow.holds Try.pinned (OpenSpec.ofChange fnExactShadowOfWrong)

/-- 'laws.FnExactShadowWalk': WHATEVER THE INPUT: true; the input reads as it did. -/
def fnExactShadowWalkSpec : ChangeSpec := { name := "fnExactShadowWalk", fn := fun _ => fun
  | [d1, d2, d3, d4, d5] => { results := [.lit (.bool true)], args := [d1, d2, d3, d4, d5] }
  | _ => none }
def fnExactShadowWalkRow : OpenClaim := { program := "ytlikfpmbcdlnjaa", sum := "65f95c94e8af282fc3407b1bcf729843aed73baccd5bad1a9846af7766bbba9f", func := "loop.example/guesthouse/laws.FnExactShadowWalk", spec := "fnExactShadowWalk", apart := false }
def FnExactShadowWalkSaid : Prop := fnExactShadowWalkRow.holds Try.pinned (OpenSpec.ofChange fnExactShadowWalkSpec)

/-- ITS FALSE NEIGHBOUR: 'it returns false'. Refute it at one input. -/
def fnExactShadowWalkWrong : ChangeSpec := { name := "fnExactShadowWalk", fn := fun _ => fun
  | [d1, d2, d3, d4, d5] => { results := [.lit (.bool false)], args := [d1, d2, d3, d4, d5] }
  | _ => none }
def FnExactShadowWalkWrongFalsely : Prop := fnExactShadowWalkRow.holds Try.pinned (OpenSpec.ofChange fnExactShadowWalkWrong)

/-- 'laws.FnExactHostFill': WHATEVER THE INPUT: true; the input reads as it did. -/
def fnExactHostFillSpec : ChangeSpec := { name := "fnExactHostFill", fn := fun _ => fun
  | [d1, d2, d3] => { results := [.lit (.bool true)], args := [d1, d2, d3] }
  | _ => none }
def fnExactHostFillRow : OpenClaim := { program := "ytlikfpmbcdlnjaa", sum := "65f95c94e8af282fc3407b1bcf729843aed73baccd5bad1a9846af7766bbba9f", func := "loop.example/guesthouse/laws.FnExactHostFill", spec := "fnExactHostFill", apart := false }
def FnExactHostFillSaid : Prop := fnExactHostFillRow.holds Try.pinned (OpenSpec.ofChange fnExactHostFillSpec)

/-- ITS FALSE NEIGHBOUR: 'it returns false'. Refute it at one input. -/
def fnExactHostFillWrong : ChangeSpec := { name := "fnExactHostFill", fn := fun _ => fun
  | [d1, d2, d3] => { results := [.lit (.bool false)], args := [d1, d2, d3] }
  | _ => none }
def FnExactHostFillWrongFalsely : Prop := fnExactHostFillRow.holds Try.pinned (OpenSpec.ofChange fnExactHostFillWrong)

/-- 'laws.FnExactHostCopy': WHATEVER THE INPUT: true; the input reads as it did. -/
def fnExactHostCopySpec : ChangeSpec := { name := "fnExactHostCopy", fn := fun _ => fun
  | [d1, d2, d3] => { results := [.lit (.bool true)], args := [d1, d2, d3] }
  | _ => none }
def fnExactHostCopyRow : OpenClaim := { program := "ytlikfpmbcdlnjaa", sum := "65f95c94e8af282fc3407b1bcf729843aed73baccd5bad1a9846af7766bbba9f", func := "loop.example/guesthouse/laws.FnExactHostCopy", spec := "fnExactHostCopy", apart := false }
def FnExactHostCopySaid : Prop := fnExactHostCopyRow.holds Try.pinned (OpenSpec.ofChange fnExactHostCopySpec)

/-- ITS FALSE NEIGHBOUR: 'it returns false'. Refute it at one input. -/
def fnExactHostCopyWrong : ChangeSpec := { name := "fnExactHostCopy", fn := fun _ => fun
  | [d1, d2, d3] => { results := [.lit (.bool false)], args := [d1, d2, d3] }
  | _ => none }
def FnExactHostCopyWrongFalsely : Prop := fnExactHostCopyRow.holds Try.pinned (OpenSpec.ofChange fnExactHostCopyWrong)

/-- 'laws.FnHostOk': WHATEVER THE INPUT: true; the input reads as it did. -/
def fnHostOkSpec : ChangeSpec := { name := "fnHostOk", fn := fun _ => fun
  | [d] => { results := [.lit (.bool true)], args := [d] }
  | _ => none }
def fnHostOkRow : OpenClaim := { program := "ytlikfpmbcdlnjaa", sum := "65f95c94e8af282fc3407b1bcf729843aed73baccd5bad1a9846af7766bbba9f", func := "loop.example/guesthouse/laws.FnHostOk", spec := "fnHostOk", apart := false }
def FnHostOkSaid : Prop := fnHostOkRow.holds Try.pinned (OpenSpec.ofChange fnHostOkSpec)

/-- ITS FALSE NEIGHBOUR: 'it returns false'. Refute it at one input. -/
def fnHostOkWrong : ChangeSpec := { name := "fnHostOk", fn := fun _ => fun
  | [d] => { results := [.lit (.bool false)], args := [d] }
  | _ => none }
def FnHostOkWrongFalsely : Prop := fnHostOkRow.holds Try.pinned (OpenSpec.ofChange fnHostOkWrong)

/-- 'laws.FnHostView': WHATEVER THE INPUT: true; the input reads as it did. -/
def fnHostViewSpec : ChangeSpec := { name := "fnHostView", fn := fun _ => fun
  | [d] => { results := [.lit (.bool true)], args := [d] }
  | _ => none }
def fnHostViewRow : OpenClaim := { program := "ytlikfpmbcdlnjaa", sum := "65f95c94e8af282fc3407b1bcf729843aed73baccd5bad1a9846af7766bbba9f", func := "loop.example/guesthouse/laws.FnHostView", spec := "fnHostView", apart := false }
def FnHostViewSaid : Prop := fnHostViewRow.holds Try.pinned (OpenSpec.ofChange fnHostViewSpec)

/-- ITS FALSE NEIGHBOUR: 'it returns false'. Refute it at one input. -/
def fnHostViewWrong : ChangeSpec := { name := "fnHostView", fn := fun _ => fun
  | [d] => { results := [.lit (.bool false)], args := [d] }
  | _ => none }
def FnHostViewWrongFalsely : Prop := fnHostViewRow.holds Try.pinned (OpenSpec.ofChange fnHostViewWrong)

/-- 'laws.FnHostFree': WHATEVER THE INPUT: true; the input reads as it did. -/
def fnHostFreeSpec : ChangeSpec := { name := "fnHostFree", fn := fun _ => fun
  | [d] => { results := [.lit (.bool true)], args := [d] }
  | _ => none }
def fnHostFreeRow : OpenClaim := { program := "ytlikfpmbcdlnjaa", sum := "65f95c94e8af282fc3407b1bcf729843aed73baccd5bad1a9846af7766bbba9f", func := "loop.example/guesthouse/laws.FnHostFree", spec := "fnHostFree", apart := false }
def FnHostFreeSaid : Prop := fnHostFreeRow.holds Try.pinned (OpenSpec.ofChange fnHostFreeSpec)

/-- ITS FALSE NEIGHBOUR: 'it returns false'. Refute it at one input. -/
def fnHostFreeWrong : ChangeSpec := { name := "fnHostFree", fn := fun _ => fun
  | [d] => { results := [.lit (.bool false)], args := [d] }
  | _ => none }
def FnHostFreeWrongFalsely : Prop := fnHostFreeRow.holds Try.pinned (OpenSpec.ofChange fnHostFreeWrong)

/-- 'laws.FnHostDrop': WHATEVER THE INPUT: true; the input reads as it did. -/
def fnHostDropSpec : ChangeSpec := { name := "fnHostDrop", fn := fun _ => fun
  | [d] => { results := [.lit (.bool true)], args := [d] }
  | _ => none }
def fnHostDropRow : OpenClaim := { program := "ytlikfpmbcdlnjaa", sum := "65f95c94e8af282fc3407b1bcf729843aed73baccd5bad1a9846af7766bbba9f", func := "loop.example/guesthouse/laws.FnHostDrop", spec := "fnHostDrop", apart := false }
def FnHostDropSaid : Prop := fnHostDropRow.holds Try.pinned (OpenSpec.ofChange fnHostDropSpec)

/-- ITS FALSE NEIGHBOUR: 'it returns false'. Refute it at one input. -/
def fnHostDropWrong : ChangeSpec := { name := "fnHostDrop", fn := fun _ => fun
  | [d] => { results := [.lit (.bool false)], args := [d] }
  | _ => none }
def FnHostDropWrongFalsely : Prop := fnHostDropRow.holds Try.pinned (OpenSpec.ofChange fnHostDropWrong)

/- THE SECOND FORM. 'bulk': how many values and letters a reading holds, each counted each time it is reached (what is shared counts as often as it is met; a slice's spare places count too). A statement '..UptoSaid' is the law's where the arguments, and the package variables that the reading takes, are together of bulk at most 1048576: NARROWER than '..Said'. Prove '..Said' where nothing that the law and all that it calls make is longer than what came in: it says more and counts as full. Else prove '..UptoSaid'. A law counts once. -/
mutual
def uptoBulk {H : Type} : DataW H → Nat
  | .lit (.string bytes) => bytes.length + 1
  | .lit _ => 1
  | .nil => 1
  | .ptr d => uptoBulk d + 1
  | .slice elems spare => uptoBulkAll elems + uptoBulkAll spare + 1
  | .agg parts => uptoBulkAll parts + 1
  | .iface _ d => uptoBulk d + 1
  | .map entries => uptoBulkEntries entries + 1
  | .held _ => 1
def uptoBulkAll {H : Type} : List (DataW H) → Nat
  | [] => 0
  | d :: r => uptoBulk d + uptoBulkAll r
def uptoBulkEntries {H : Type} : List (Lit × DataW H) → Nat
  | [] => 0
  | x :: r => uptoBulkEntry x + uptoBulkEntries r
def uptoBulkEntry {H : Type} : Lit × DataW H → Nat
  | (.string bytes, d) => bytes.length + uptoBulk d + 1
  | (_, d) => uptoBulk d + 1
 end
def uptoSmall : (H : Type) → List (DataW H) → Bool := fun _ ds => decide (uptoBulkAll ds ≤ 1048576)
def OpenSpec.upto (s : _root_.Go.ChangeSpec) : _root_.Go.OpenSpec := { _root_.Go.OpenSpec.ofChange s with cond := some uptoSmall }

/-- 'laws.FnHostBoot', WHERE WHAT IT READS IS OF BULK AT MOST 1048576: true; the input reads as it did. -/
def fnHostBootUptoRow : OpenClaim := { program := "ytlikfpmbcdlnjaa", sum := "65f95c94e8af282fc3407b1bcf729843aed73baccd5bad1a9846af7766bbba9f", func := "loop.example/guesthouse/laws.FnHostBoot", spec := "fnHostBoot", apart := false, narrowed := true }
def FnHostBootUptoSaid : Prop := fnHostBootUptoRow.holds Try.pinned (OpenSpec.upto fnHostBootSpec)

/-- 'laws.FnShadowOf', WHERE WHAT IT READS IS OF BULK AT MOST 1048576: true; the input reads as it did. -/
def fnShadowOfUptoRow : OpenClaim := { program := "ytlikfpmbcdlnjaa", sum := "65f95c94e8af282fc3407b1bcf729843aed73baccd5bad1a9846af7766bbba9f", func := "loop.example/guesthouse/laws.FnShadowOf", spec := "fnShadowOf", apart := false, narrowed := true }
def FnShadowOfUptoSaid : Prop := fnShadowOfUptoRow.holds Try.pinned (OpenSpec.upto fnShadowOfSpec)

/-- 'laws.FnShadowWalk', WHERE WHAT IT READS IS OF BULK AT MOST 1048576: true; the input reads as it did. -/
def fnShadowWalkUptoRow : OpenClaim := { program := "ytlikfpmbcdlnjaa", sum := "65f95c94e8af282fc3407b1bcf729843aed73baccd5bad1a9846af7766bbba9f", func := "loop.example/guesthouse/laws.FnShadowWalk", spec := "fnShadowWalk", apart := false, narrowed := true }
def FnShadowWalkUptoSaid : Prop := fnShadowWalkUptoRow.holds Try.pinned (OpenSpec.upto fnShadowWalkSpec)

/-- 'laws.FnHostFill', WHERE WHAT IT READS IS OF BULK AT MOST 1048576: true; the input reads as it did. -/
def fnHostFillUptoRow : OpenClaim := { program := "ytlikfpmbcdlnjaa", sum := "65f95c94e8af282fc3407b1bcf729843aed73baccd5bad1a9846af7766bbba9f", func := "loop.example/guesthouse/laws.FnHostFill", spec := "fnHostFill", apart := false, narrowed := true }
def FnHostFillUptoSaid : Prop := fnHostFillUptoRow.holds Try.pinned (OpenSpec.upto fnHostFillSpec)

/-- 'laws.FnHostCopy', WHERE WHAT IT READS IS OF BULK AT MOST 1048576: true; the input reads as it did. -/
def fnHostCopyUptoRow : OpenClaim := { program := "ytlikfpmbcdlnjaa", sum := "65f95c94e8af282fc3407b1bcf729843aed73baccd5bad1a9846af7766bbba9f", func := "loop.example/guesthouse/laws.FnHostCopy", spec := "fnHostCopy", apart := false, narrowed := true }
def FnHostCopyUptoSaid : Prop := fnHostCopyUptoRow.holds Try.pinned (OpenSpec.upto fnHostCopySpec)

/-- 'laws.FnExactHostBoot', WHERE WHAT IT READS IS OF BULK AT MOST 1048576: true; the input reads as it did. -/
def fnExactHostBootUptoRow : OpenClaim := { program := "ytlikfpmbcdlnjaa", sum := "65f95c94e8af282fc3407b1bcf729843aed73baccd5bad1a9846af7766bbba9f", func := "loop.example/guesthouse/laws.FnExactHostBoot", spec := "fnExactHostBoot", apart := false, narrowed := true }
def FnExactHostBootUptoSaid : Prop := fnExactHostBootUptoRow.holds Try.pinned (OpenSpec.upto fnExactHostBootSpec)

/-- 'laws.FnExactShadowOf', WHERE WHAT IT READS IS OF BULK AT MOST 1048576: true; the input reads as it did. -/
def fnExactShadowOfUptoRow : OpenClaim := { program := "ytlikfpmbcdlnjaa", sum := "65f95c94e8af282fc3407b1bcf729843aed73baccd5bad1a9846af7766bbba9f", func := "loop.example/guesthouse/laws.FnExactShadowOf", spec := "fnExactShadowOf", apart := false, narrowed := true }
def FnExactShadowOfUptoSaid : Prop := fnExactShadowOfUptoRow.holds Try.pinned (OpenSpec.upto fnExactShadowOfSpec)

/-- 'laws.FnExactShadowWalk', WHERE WHAT IT READS IS OF BULK AT MOST 1048576: true; the input reads as it did. -/
def fnExactShadowWalkUptoRow : OpenClaim := { program := "ytlikfpmbcdlnjaa", sum := "65f95c94e8af282fc3407b1bcf729843aed73baccd5bad1a9846af7766bbba9f", func := "loop.example/guesthouse/laws.FnExactShadowWalk", spec := "fnExactShadowWalk", apart := false, narrowed := true }
def FnExactShadowWalkUptoSaid : Prop := fnExactShadowWalkUptoRow.holds Try.pinned (OpenSpec.upto fnExactShadowWalkSpec)

/-- 'laws.FnExactHostFill', WHERE WHAT IT READS IS OF BULK AT MOST 1048576: true; the input reads as it did. -/
def fnExactHostFillUptoRow : OpenClaim := { program := "ytlikfpmbcdlnjaa", sum := "65f95c94e8af282fc3407b1bcf729843aed73baccd5bad1a9846af7766bbba9f", func := "loop.example/guesthouse/laws.FnExactHostFill", spec := "fnExactHostFill", apart := false, narrowed := true }
def FnExactHostFillUptoSaid : Prop := fnExactHostFillUptoRow.holds Try.pinned (OpenSpec.upto fnExactHostFillSpec)

/-- 'laws.FnExactHostCopy', WHERE WHAT IT READS IS OF BULK AT MOST 1048576: true; the input reads as it did. -/
def fnExactHostCopyUptoRow : OpenClaim := { program := "ytlikfpmbcdlnjaa", sum := "65f95c94e8af282fc3407b1bcf729843aed73baccd5bad1a9846af7766bbba9f", func := "loop.example/guesthouse/laws.FnExactHostCopy", spec := "fnExactHostCopy", apart := false, narrowed := true }
def FnExactHostCopyUptoSaid : Prop := fnExactHostCopyUptoRow.holds Try.pinned (OpenSpec.upto fnExactHostCopySpec)

/-- 'laws.FnHostOk', WHERE WHAT IT READS IS OF BULK AT MOST 1048576: true; the input reads as it did. -/
def fnHostOkUptoRow : OpenClaim := { program := "ytlikfpmbcdlnjaa", sum := "65f95c94e8af282fc3407b1bcf729843aed73baccd5bad1a9846af7766bbba9f", func := "loop.example/guesthouse/laws.FnHostOk", spec := "fnHostOk", apart := false, narrowed := true }
def FnHostOkUptoSaid : Prop := fnHostOkUptoRow.holds Try.pinned (OpenSpec.upto fnHostOkSpec)

/-- 'laws.FnHostView', WHERE WHAT IT READS IS OF BULK AT MOST 1048576: true; the input reads as it did. -/
def fnHostViewUptoRow : OpenClaim := { program := "ytlikfpmbcdlnjaa", sum := "65f95c94e8af282fc3407b1bcf729843aed73baccd5bad1a9846af7766bbba9f", func := "loop.example/guesthouse/laws.FnHostView", spec := "fnHostView", apart := false, narrowed := true }
def FnHostViewUptoSaid : Prop := fnHostViewUptoRow.holds Try.pinned (OpenSpec.upto fnHostViewSpec)

/-- 'laws.FnHostFree', WHERE WHAT IT READS IS OF BULK AT MOST 1048576: true; the input reads as it did. -/
def fnHostFreeUptoRow : OpenClaim := { program := "ytlikfpmbcdlnjaa", sum := "65f95c94e8af282fc3407b1bcf729843aed73baccd5bad1a9846af7766bbba9f", func := "loop.example/guesthouse/laws.FnHostFree", spec := "fnHostFree", apart := false, narrowed := true }
def FnHostFreeUptoSaid : Prop := fnHostFreeUptoRow.holds Try.pinned (OpenSpec.upto fnHostFreeSpec)

/-- 'laws.FnHostDrop', WHERE WHAT IT READS IS OF BULK AT MOST 1048576: true; the input reads as it did. -/
def fnHostDropUptoRow : OpenClaim := { program := "ytlikfpmbcdlnjaa", sum := "65f95c94e8af282fc3407b1bcf729843aed73baccd5bad1a9846af7766bbba9f", func := "loop.example/guesthouse/laws.FnHostDrop", spec := "fnHostDrop", apart := false, narrowed := true }
def FnHostDropUptoSaid : Prop := fnHostDropUptoRow.holds Try.pinned (OpenSpec.upto fnHostDropSpec)

end Rows
end Go.Proofs.Ytlikfpmbcdlnjaa
