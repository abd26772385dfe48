/-
  No cell of these rows narrows 'for every input' (looked for: loops, veiled, ifaces, maps, wideKeys, modest, calm, conditions, laid).
  DERIVED. THE GIVEN ROWS OF THIS SEAT. 12 by the template 'for every input the law returns true; each argument reads behind the call as it read before'; 0 by the template 'total and deterministic' (their statements: YtbogmfjpabfhpaaTotals.lean).
  GIVEN WITH THE SEED: the statements are not yours to turn. If you find one false, say at which input.
  Laid BY PROGRAM, IN A SANDBOX (cutbox-rows.mjs): the forced cells as the released guide's own fill.sh prints them over the translation 11caa8953cdf60a8… (all of the seat's roots in one cut). By AI agents, Wed Nov 11 2026. No macro, syntax, notation, axiom, sorry.
-/
import Derived.Test.YtbogmfjpabfhpaaChecked
import GoSem.Claim
import GoSem.ClaimJoined
import GoSem.ClaimMapViews
import Derived.JoinedTies
import Derived.KernelRfl
namespace Go.Proofs.Ytbogmfjpabfhpaa
/- THE CELL 'sum', in the pinned program and in every row, IS THE sha256 OF THE DUMP (.gsa) THAT YtbogmfjpabfhpaaProg.lean LOADS. Nothing in Lean hashes anything: it is a label: what it is worth is what the hold of that sum in a sandbox is worth. -/
noncomputable def Try.pinned : Pinned := { name := "ytbogmfjpabfhpaa", sum := "11caa8953cdf60a8d56e6a2b5709acb419ddfadb34b5aeda9eb57b6d2b7ca7f1", checked := Try.checked }
namespace Rows
def none {H : Type} : Left H := { results := [], args := [] }

/-- 'laws.FnHostOk': WHATEVER THE INPUT: true; the input reads as it did. -/
def fnHostOkSpec : ChangeSpec := { name := "fnHostOk", fn := fun _ => fun
  | [d] => { results := [.lit (.bool true)], args := [d] }
  | _ => none }
def fnHostOkRow : OpenClaim := { program := "ytbogmfjpabfhpaa", sum := "11caa8953cdf60a8d56e6a2b5709acb419ddfadb34b5aeda9eb57b6d2b7ca7f1", func := "loop.example/guesthouse/laws.FnHostOk", spec := "fnHostOk", apart := false }
def FnHostOkSaid : Prop := fnHostOkRow.holds Try.pinned (OpenSpec.ofChange fnHostOkSpec)

/-- ITS FALSE NEIGHBOUR: 'it returns false'. Refute it at one input. -/
def fnHostOkWrong : ChangeSpec := { name := "fnHostOk", fn := fun _ => fun
  | [d] => { results := [.lit (.bool false)], args := [d] }
  | _ => none }
def FnHostOkWrongFalsely : Prop := fnHostOkRow.holds Try.pinned (OpenSpec.ofChange fnHostOkWrong)

/-- 'laws.FnHostNew': WHATEVER THE INPUT: true; the input reads as it did. -/
def fnHostNewSpec : ChangeSpec := { name := "fnHostNew", fn := fun _ => fun
  | [d] => { results := [.lit (.bool true)], args := [d] }
  | _ => none }
def fnHostNewRow : OpenClaim := { program := "ytbogmfjpabfhpaa", sum := "11caa8953cdf60a8d56e6a2b5709acb419ddfadb34b5aeda9eb57b6d2b7ca7f1", func := "loop.example/guesthouse/laws.FnHostNew", spec := "fnHostNew", apart := false }
def FnHostNewSaid : Prop := fnHostNewRow.holds Try.pinned (OpenSpec.ofChange fnHostNewSpec)

/-- ITS FALSE NEIGHBOUR: 'it returns false'. Refute it at one input. -/
def fnHostNewWrong : ChangeSpec := { name := "fnHostNew", fn := fun _ => fun
  | [d] => { results := [.lit (.bool false)], args := [d] }
  | _ => none }
def FnHostNewWrongFalsely : Prop := fnHostNewRow.holds Try.pinned (OpenSpec.ofChange fnHostNewWrong)

/-- 'laws.FnHostView': WHATEVER THE INPUT: true; the input reads as it did. -/
def fnHostViewSpec : ChangeSpec := { name := "fnHostView", fn := fun _ => fun
  | [d] => { results := [.lit (.bool true)], args := [d] }
  | _ => none }
def fnHostViewRow : OpenClaim := { program := "ytbogmfjpabfhpaa", sum := "11caa8953cdf60a8d56e6a2b5709acb419ddfadb34b5aeda9eb57b6d2b7ca7f1", func := "loop.example/guesthouse/laws.FnHostView", spec := "fnHostView", apart := false }
def FnHostViewSaid : Prop := fnHostViewRow.holds Try.pinned (OpenSpec.ofChange fnHostViewSpec)

/-- ITS FALSE NEIGHBOUR: 'it returns false'. Refute it at one input. -/
def fnHostViewWrong : ChangeSpec := { name := "fnHostView", fn := fun _ => fun
  | [d] => { results := [.lit (.bool false)], args := [d] }
  | _ => none }
def FnHostViewWrongFalsely : Prop := fnHostViewRow.holds Try.pinned (OpenSpec.ofChange fnHostViewWrong)

/-- 'laws.FnHostFree': WHATEVER THE INPUT: true; the input reads as it did. -/
def fnHostFreeSpec : ChangeSpec := { name := "fnHostFree", fn := fun _ => fun
  | [d] => { results := [.lit (.bool true)], args := [d] }
  | _ => none }
def fnHostFreeRow : OpenClaim := { program := "ytbogmfjpabfhpaa", sum := "11caa8953cdf60a8d56e6a2b5709acb419ddfadb34b5aeda9eb57b6d2b7ca7f1", func := "loop.example/guesthouse/laws.FnHostFree", spec := "fnHostFree", apart := false }
def FnHostFreeSaid : Prop := fnHostFreeRow.holds Try.pinned (OpenSpec.ofChange fnHostFreeSpec)

/-- ITS FALSE NEIGHBOUR: 'it returns false'. Refute it at one input. -/
def fnHostFreeWrong : ChangeSpec := { name := "fnHostFree", fn := fun _ => fun
  | [d] => { results := [.lit (.bool false)], args := [d] }
  | _ => none }
def FnHostFreeWrongFalsely : Prop := fnHostFreeRow.holds Try.pinned (OpenSpec.ofChange fnHostFreeWrong)

/-- 'laws.FnHostBoot': WHATEVER THE INPUT: true; the input reads as it did. -/
def fnHostBootSpec : ChangeSpec := { name := "fnHostBoot", fn := fun _ => fun
  | [d] => { results := [.lit (.bool true)], args := [d] }
  | _ => none }
def fnHostBootRow : OpenClaim := { program := "ytbogmfjpabfhpaa", sum := "11caa8953cdf60a8d56e6a2b5709acb419ddfadb34b5aeda9eb57b6d2b7ca7f1", func := "loop.example/guesthouse/laws.FnHostBoot", spec := "fnHostBoot", apart := false }
def FnHostBootSaid : Prop := fnHostBootRow.holds Try.pinned (OpenSpec.ofChange fnHostBootSpec)

/-- ITS FALSE NEIGHBOUR: 'it returns false'. Refute it at one input. -/
def fnHostBootWrong : ChangeSpec := { name := "fnHostBoot", fn := fun _ => fun
  | [d] => { results := [.lit (.bool false)], args := [d] }
  | _ => none }
def FnHostBootWrongFalsely : Prop := fnHostBootRow.holds Try.pinned (OpenSpec.ofChange fnHostBootWrong)

/-- 'laws.FnHostDrop': WHATEVER THE INPUT: true; the input reads as it did. -/
def fnHostDropSpec : ChangeSpec := { name := "fnHostDrop", fn := fun _ => fun
  | [d] => { results := [.lit (.bool true)], args := [d] }
  | _ => none }
def fnHostDropRow : OpenClaim := { program := "ytbogmfjpabfhpaa", sum := "11caa8953cdf60a8d56e6a2b5709acb419ddfadb34b5aeda9eb57b6d2b7ca7f1", func := "loop.example/guesthouse/laws.FnHostDrop", spec := "fnHostDrop", apart := false }
def FnHostDropSaid : Prop := fnHostDropRow.holds Try.pinned (OpenSpec.ofChange fnHostDropSpec)

/-- ITS FALSE NEIGHBOUR: 'it returns false'. Refute it at one input. -/
def fnHostDropWrong : ChangeSpec := { name := "fnHostDrop", fn := fun _ => fun
  | [d] => { results := [.lit (.bool false)], args := [d] }
  | _ => none }
def FnHostDropWrongFalsely : Prop := fnHostDropRow.holds Try.pinned (OpenSpec.ofChange fnHostDropWrong)

/-- 'laws.FnExactHostOk': WHATEVER THE INPUT: true; the input reads as it did. -/
def fnExactHostOkSpec : ChangeSpec := { name := "fnExactHostOk", fn := fun _ => fun
  | [d] => { results := [.lit (.bool true)], args := [d] }
  | _ => none }
def fnExactHostOkRow : OpenClaim := { program := "ytbogmfjpabfhpaa", sum := "11caa8953cdf60a8d56e6a2b5709acb419ddfadb34b5aeda9eb57b6d2b7ca7f1", func := "loop.example/guesthouse/laws.FnExactHostOk", spec := "fnExactHostOk", apart := false }
def FnExactHostOkSaid : Prop := fnExactHostOkRow.holds Try.pinned (OpenSpec.ofChange fnExactHostOkSpec)

/-- ITS FALSE NEIGHBOUR: 'it returns false'. Refute it at one input. -/
def fnExactHostOkWrong : ChangeSpec := { name := "fnExactHostOk", fn := fun _ => fun
  | [d] => { results := [.lit (.bool false)], args := [d] }
  | _ => none }
def FnExactHostOkWrongFalsely : Prop := fnExactHostOkRow.holds Try.pinned (OpenSpec.ofChange fnExactHostOkWrong)

/-- 'laws.FnExactHostNew': WHATEVER THE INPUT: true; the input reads as it did. -/
def fnExactHostNewSpec : ChangeSpec := { name := "fnExactHostNew", fn := fun _ => fun
  | [d] => { results := [.lit (.bool true)], args := [d] }
  | _ => none }
def fnExactHostNewRow : OpenClaim := { program := "ytbogmfjpabfhpaa", sum := "11caa8953cdf60a8d56e6a2b5709acb419ddfadb34b5aeda9eb57b6d2b7ca7f1", func := "loop.example/guesthouse/laws.FnExactHostNew", spec := "fnExactHostNew", apart := false }
def FnExactHostNewSaid : Prop := fnExactHostNewRow.holds Try.pinned (OpenSpec.ofChange fnExactHostNewSpec)

/-- ITS FALSE NEIGHBOUR: 'it returns false'. Refute it at one input. -/
def fnExactHostNewWrong : ChangeSpec := { name := "fnExactHostNew", fn := fun _ => fun
  | [d] => { results := [.lit (.bool false)], args := [d] }
  | _ => none }
def FnExactHostNewWrongFalsely : Prop := fnExactHostNewRow.holds Try.pinned (OpenSpec.ofChange fnExactHostNewWrong)

/-- 'laws.FnExactHostView': WHATEVER THE INPUT: true; the input reads as it did. -/
def fnExactHostViewSpec : ChangeSpec := { name := "fnExactHostView", fn := fun _ => fun
  | [d1, d2] => { results := [.lit (.bool true)], args := [d1, d2] }
  | _ => none }
def fnExactHostViewRow : OpenClaim := { program := "ytbogmfjpabfhpaa", sum := "11caa8953cdf60a8d56e6a2b5709acb419ddfadb34b5aeda9eb57b6d2b7ca7f1", func := "loop.example/guesthouse/laws.FnExactHostView", spec := "fnExactHostView", apart := false }
def FnExactHostViewSaid : Prop := fnExactHostViewRow.holds Try.pinned (OpenSpec.ofChange fnExactHostViewSpec)

/-- ITS FALSE NEIGHBOUR: 'it returns false'. Refute it at one input. -/
def fnExactHostViewWrong : ChangeSpec := { name := "fnExactHostView", fn := fun _ => fun
  | [d1, d2] => { results := [.lit (.bool false)], args := [d1, d2] }
  | _ => none }
def FnExactHostViewWrongFalsely : Prop := fnExactHostViewRow.holds Try.pinned (OpenSpec.ofChange fnExactHostViewWrong)

/-- 'laws.FnExactHostFree': WHATEVER THE INPUT: true; the input reads as it did. -/
def fnExactHostFreeSpec : ChangeSpec := { name := "fnExactHostFree", fn := fun _ => fun
  | [d] => { results := [.lit (.bool true)], args := [d] }
  | _ => none }
def fnExactHostFreeRow : OpenClaim := { program := "ytbogmfjpabfhpaa", sum := "11caa8953cdf60a8d56e6a2b5709acb419ddfadb34b5aeda9eb57b6d2b7ca7f1", func := "loop.example/guesthouse/laws.FnExactHostFree", spec := "fnExactHostFree", apart := false }
def FnExactHostFreeSaid : Prop := fnExactHostFreeRow.holds Try.pinned (OpenSpec.ofChange fnExactHostFreeSpec)

/-- ITS FALSE NEIGHBOUR: 'it returns false'. Refute it at one input. -/
def fnExactHostFreeWrong : ChangeSpec := { name := "fnExactHostFree", fn := fun _ => fun
  | [d] => { results := [.lit (.bool false)], args := [d] }
  | _ => none }
def FnExactHostFreeWrongFalsely : Prop := fnExactHostFreeRow.holds Try.pinned (OpenSpec.ofChange fnExactHostFreeWrong)

/-- 'laws.FnExactHostBoot': WHATEVER THE INPUT: true; the input reads as it did. -/
def fnExactHostBootSpec : ChangeSpec := { name := "fnExactHostBoot", fn := fun _ => fun
  | [d1, d2] => { results := [.lit (.bool true)], args := [d1, d2] }
  | _ => none }
def fnExactHostBootRow : OpenClaim := { program := "ytbogmfjpabfhpaa", sum := "11caa8953cdf60a8d56e6a2b5709acb419ddfadb34b5aeda9eb57b6d2b7ca7f1", func := "loop.example/guesthouse/laws.FnExactHostBoot", spec := "fnExactHostBoot", apart := false }
def FnExactHostBootSaid : Prop := fnExactHostBootRow.holds Try.pinned (OpenSpec.ofChange fnExactHostBootSpec)

/-- ITS FALSE NEIGHBOUR: 'it returns false'. Refute it at one input. -/
def fnExactHostBootWrong : ChangeSpec := { name := "fnExactHostBoot", fn := fun _ => fun
  | [d1, d2] => { results := [.lit (.bool false)], args := [d1, d2] }
  | _ => none }
def FnExactHostBootWrongFalsely : Prop := fnExactHostBootRow.holds Try.pinned (OpenSpec.ofChange fnExactHostBootWrong)

/-- 'laws.FnExactHostDrop': WHATEVER THE INPUT: true; the input reads as it did. -/
def fnExactHostDropSpec : ChangeSpec := { name := "fnExactHostDrop", fn := fun _ => fun
  | [d1, d2] => { results := [.lit (.bool true)], args := [d1, d2] }
  | _ => none }
def fnExactHostDropRow : OpenClaim := { program := "ytbogmfjpabfhpaa", sum := "11caa8953cdf60a8d56e6a2b5709acb419ddfadb34b5aeda9eb57b6d2b7ca7f1", func := "loop.example/guesthouse/laws.FnExactHostDrop", spec := "fnExactHostDrop", apart := false }
def FnExactHostDropSaid : Prop := fnExactHostDropRow.holds Try.pinned (OpenSpec.ofChange fnExactHostDropSpec)

/-- ITS FALSE NEIGHBOUR: 'it returns false'. Refute it at one input. -/
def fnExactHostDropWrong : ChangeSpec := { name := "fnExactHostDrop", fn := fun _ => fun
  | [d1, d2] => { results := [.lit (.bool false)], args := [d1, d2] }
  | _ => none }
def FnExactHostDropWrongFalsely : Prop := fnExactHostDropRow.holds Try.pinned (OpenSpec.ofChange fnExactHostDropWrong)

/- THE SECOND FORM. 'bulk': how many values and letters a reading holds, each counted each time it is reached (what is shared counts as often as it is met; a slice's spare places count too). A statement '..UptoSaid' is the law's where the arguments, and the package variables that the reading takes, are together of bulk at most 1048576: NARROWER than '..Said'. Prove '..Said' where nothing that the law and all that it calls make is longer than what came in: it says more and counts as full. Else prove '..UptoSaid'. A law counts once. -/
mutual
def uptoBulk {H : Type} : DataW H → Nat
  | .lit (.string bytes) => bytes.length + 1
  | .lit _ => 1
  | .nil => 1
  | .ptr d => uptoBulk d + 1
  | .slice elems spare => uptoBulkAll elems + uptoBulkAll spare + 1
  | .agg parts => uptoBulkAll parts + 1
  | .iface _ d => uptoBulk d + 1
  | .map entries => uptoBulkEntries entries + 1
  | .held _ => 1
def uptoBulkAll {H : Type} : List (DataW H) → Nat
  | [] => 0
  | d :: r => uptoBulk d + uptoBulkAll r
def uptoBulkEntries {H : Type} : List (Lit × DataW H) → Nat
  | [] => 0
  | x :: r => uptoBulkEntry x + uptoBulkEntries r
def uptoBulkEntry {H : Type} : Lit × DataW H → Nat
  | (.string bytes, d) => bytes.length + uptoBulk d + 1
  | (_, d) => uptoBulk d + 1
 end
def uptoSmall : (H : Type) → List (DataW H) → Bool := fun _ ds => decide (uptoBulkAll ds ≤ 1048576)
def OpenSpec.upto (s : _root_.Go.ChangeSpec) : _root_.Go.OpenSpec := { _root_.Go.OpenSpec.ofChange s with cond := some uptoSmall }

/-- 'laws.FnHostOk', WHERE WHAT IT READS IS OF BULK AT MOST 1048576: true; the input reads as it did. -/
def fnHostOkUptoRow : OpenClaim := { program := "ytbogmfjpabfhpaa", sum := "11caa8953cdf60a8d56e6a2b5709acb419ddfadb34b5aeda9eb57b6d2b7ca7f1", func := "loop.example/guesthouse/laws.FnHostOk", spec := "fnHostOk", apart := false, narrowed := true }
def FnHostOkUptoSaid : Prop := fnHostOkUptoRow.holds Try.pinned (OpenSpec.upto fnHostOkSpec)

/-- 'laws.FnHostNew', WHERE WHAT IT READS IS OF BULK AT MOST 1048576: true; the input reads as it did. -/
def fnHostNewUptoRow : OpenClaim := { program := "ytbogmfjpabfhpaa", sum := "11caa8953cdf60a8d56e6a2b5709acb419ddfadb34b5aeda9eb57b6d2b7ca7f1", func := "loop.example/guesthouse/laws.FnHostNew", spec := "fnHostNew", apart := false, narrowed := true }
def FnHostNewUptoSaid : Prop := fnHostNewUptoRow.holds Try.pinned (OpenSpec.upto fnHostNewSpec)

/-- 'laws.FnHostView', WHERE WHAT IT READS IS OF BULK AT MOST 1048576: true; the input reads as it did. -/
def fnHostViewUptoRow : OpenClaim := { program := "ytbogmfjpabfhpaa", sum := "11caa8953cdf60a8d56e6a2b5709acb419ddfadb34b5aeda9eb57b6d2b7ca7f1", func := "loop.example/guesthouse/laws.FnHostView", spec := "fnHostView", apart := false, narrowed := true }
def FnHostViewUptoSaid : Prop := fnHostViewUptoRow.holds Try.pinned (OpenSpec.upto fnHostViewSpec)

/-- 'laws.FnHostFree', WHERE WHAT IT READS IS OF BULK AT MOST 1048576: true; the input reads as it did. -/
def fnHostFreeUptoRow : OpenClaim := { program := "ytbogmfjpabfhpaa", sum := "11caa8953cdf60a8d56e6a2b5709acb419ddfadb34b5aeda9eb57b6d2b7ca7f1", func := "loop.example/guesthouse/laws.FnHostFree", spec := "fnHostFree", apart := false, narrowed := true }
def FnHostFreeUptoSaid : Prop := fnHostFreeUptoRow.holds Try.pinned (OpenSpec.upto fnHostFreeSpec)

/-- 'laws.FnHostBoot', WHERE WHAT IT READS IS OF BULK AT MOST 1048576: true; the input reads as it did. -/
def fnHostBootUptoRow : OpenClaim := { program := "ytbogmfjpabfhpaa", sum := "11caa8953cdf60a8d56e6a2b5709acb419ddfadb34b5aeda9eb57b6d2b7ca7f1", func := "loop.example/guesthouse/laws.FnHostBoot", spec := "fnHostBoot", apart := false, narrowed := true }
def FnHostBootUptoSaid : Prop := fnHostBootUptoRow.holds Try.pinned (OpenSpec.upto fnHostBootSpec)

/-- 'laws.FnHostDrop', WHERE WHAT IT READS IS OF BULK AT MOST 1048576: true; the input reads as it did. -/
def fnHostDropUptoRow : OpenClaim := { program := "ytbogmfjpabfhpaa", sum := "11caa8953cdf60a8d56e6a2b5709acb419ddfadb34b5aeda9eb57b6d2b7ca7f1", func := "loop.example/guesthouse/laws.FnHostDrop", spec := "fnHostDrop", apart := false, narrowed := true }
def FnHostDropUptoSaid : Prop := fnHostDropUptoRow.holds Try.pinned (OpenSpec.upto fnHostDropSpec)

/-- 'laws.FnExactHostOk', WHERE WHAT IT READS IS OF BULK AT MOST 1048576: true; the input reads as it did. -/
def fnExactHostOkUptoRow : OpenClaim := { program := "ytbogmfjpabfhpaa", sum := "11caa8953cdf60a8d56e6a2b5709acb419ddfadb34b5aeda9eb57b6d2b7ca7f1", func := "loop.example/guesthouse/laws.FnExactHostOk", spec := "fnExactHostOk", apart := false, narrowed := true }
def FnExactHostOkUptoSaid : Prop := fnExactHostOkUptoRow.holds Try.pinned (OpenSpec.upto fnExactHostOkSpec)

/-- 'laws.FnExactHostNew', WHERE WHAT IT READS IS OF BULK AT MOST 1048576: true; the input reads as it did. -/
def fnExactHostNewUptoRow : OpenClaim := { program := "ytbogmfjpabfhpaa", sum := "11caa8953cdf60a8d56e6a2b5709acb419ddfadb34b5aeda9eb57b6d2b7ca7f1", func := "loop.example/guesthouse/laws.FnExactHostNew", spec := "fnExactHostNew", apart := false, narrowed := true }
def FnExactHostNewUptoSaid : Prop := fnExactHostNewUptoRow.holds Try.pinned (OpenSpec.upto fnExactHostNewSpec)

/-- 'laws.FnExactHostView', WHERE WHAT IT READS IS OF BULK AT MOST 1048576: true; the input reads as it did. -/
def fnExactHostViewUptoRow : OpenClaim := { program := "ytbogmfjpabfhpaa", sum := "11caa8953cdf60a8d56e6a2b5709acb419ddfadb34b5aeda9eb57b6d2b7ca7f1", func := "loop.example/guesthouse/laws.FnExactHostView", spec := "fnExactHostView", apart := false, narrowed := true }
def FnExactHostViewUptoSaid : Prop := fnExactHostViewUptoRow.holds Try.pinned (OpenSpec.upto fnExactHostViewSpec)

/-- 'laws.FnExactHostFree', WHERE WHAT IT READS IS OF BULK AT MOST 1048576: true; the input reads as it did. -/
def fnExactHostFreeUptoRow : OpenClaim := { program := "ytbogmfjpabfhpaa", sum := "11caa8953cdf60a8d56e6a2b5709acb419ddfadb34b5aeda9eb57b6d2b7ca7f1", func := "loop.example/guesthouse/laws.FnExactHostFree", spec := "fnExactHostFree", apart := false, narrowed := true }
def FnExactHostFreeUptoSaid : Prop := fnExactHostFreeUptoRow.holds Try.pinned (OpenSpec.upto fnExactHostFreeSpec)

/-- 'laws.FnExactHostBoot', WHERE WHAT IT READS IS OF BULK AT MOST 1048576: true; the input reads as it did. -/
def fnExactHostBootUptoRow : OpenClaim := { program := "ytbogmfjpabfhpaa", sum := "11caa8953cdf60a8d56e6a2b5709acb419ddfadb34b5aeda9eb57b6d2b7ca7f1", func := "loop.example/guesthouse/laws.FnExactHostBoot", spec := "fnExactHostBoot", apart := false, narrowed := true }
def FnExactHostBootUptoSaid : Prop := fnExactHostBootUptoRow.holds Try.pinned (OpenSpec.upto fnExactHostBootSpec)

/-- 'laws.FnExactHostDrop', WHERE WHAT IT READS IS OF BULK AT MOST 1048576: true; the input reads as it did. -/
def fnExactHostDropUptoRow : OpenClaim := { program := "ytbogmfjpabfhpaa", sum := "11caa8953cdf60a8d56e6a2b5709acb419ddfadb34b5aeda9eb57b6d2b7ca7f1", func := "loop.example/guesthouse/laws.FnExactHostDrop", spec := "fnExactHostDrop", apart := false, narrowed := true }
def FnExactHostDropUptoSaid : Prop := fnExactHostDropUptoRow.holds Try.pinned (OpenSpec.upto fnExactHostDropSpec)

end Rows
end Go.Proofs.Ytbogmfjpabfhpaa
