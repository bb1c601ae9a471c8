/-
  No cell of these rows narrows 'for every input' (looked for: loops, veiled, ifaces, maps, wideKeys, modest, calm, conditions, laid).
  DERIVED. THE GIVEN ROWS OF THIS SEAT. 5 by the template 'for every input the law returns true; each argument reads behind the call as it read before'; 0 by the template 'total and deterministic' (their statements: YtajphhalneaihaaTotals.lean).
  GIVEN WITH THE SEED: the statements are not yours to turn. If you find one false, say at which input.
  Laid BY PROGRAM, IN A SANDBOX (cutbox-rows.mjs): the forced cells as the released guide's own fill.sh prints them over the translation 3151db829509f558… (all of the seat's roots in one cut). By AI agents, Wed Nov 11 2026. No macro, syntax, notation, axiom, sorry.
-/
import Derived.Test.YtajphhalneaihaaChecked
import GoSem.Claim
import GoSem.ClaimJoined
import GoSem.ClaimMapViews
import Derived.JoinedTies
import Derived.KernelRfl
namespace Go.Proofs.Ytajphhalneaihaa
/- THE CELL 'sum', in the pinned program and in every row, IS THE sha256 OF THE DUMP (.gsa) THAT YtajphhalneaihaaProg.lean LOADS. Nothing in Lean hashes anything: it is a label: what it is worth is what the hold of that sum in a sandbox is worth. -/
noncomputable def Try.pinned : Pinned := { name := "ytajphhalneaihaa", sum := "3151db829509f5582c1c75f5370fe6fda67027a2169c7e46f36bff298a901ebc", checked := Try.checked }
namespace Rows
def none {H : Type} : Left H := { results := [], args := [] }

/-- 'forerunnerlaw05.IndexPlays': WHATEVER THE INPUT: true; the input reads as it did. -/
def indexPlaysSpec : ChangeSpec := { name := "indexPlays", fn := fun _ => fun
  | [d1, d2] => { results := [.lit (.bool true)], args := [d1, d2] }
  | _ => none }
def indexPlaysRow : OpenClaim := { program := "ytajphhalneaihaa", sum := "3151db829509f5582c1c75f5370fe6fda67027a2169c7e46f36bff298a901ebc", func := "forerunner/forerunnerlaw05.IndexPlays", spec := "indexPlays", recurses := true, apart := false }
def IndexPlaysSaid : Prop := indexPlaysRow.holds Try.pinned (OpenSpec.ofChange indexPlaysSpec)

/-- ITS FALSE NEIGHBOUR: 'it returns false'. Refute it at one input. -/
def indexPlaysWrong : ChangeSpec := { name := "indexPlays", fn := fun _ => fun
  | [d1, d2] => { results := [.lit (.bool false)], args := [d1, d2] }
  | _ => none }
def IndexPlaysWrongFalsely : Prop := indexPlaysRow.holds Try.pinned (OpenSpec.ofChange indexPlaysWrong)

/-- 'forerunnerlaw05.IndexTells': WHATEVER THE INPUT: true; the input reads as it did. -/
def indexTellsSpec : ChangeSpec := { name := "indexTells", fn := fun _ => fun
  | [d1, d2] => { results := [.lit (.bool true)], args := [d1, d2] }
  | _ => none }
def indexTellsRow : OpenClaim := { program := "ytajphhalneaihaa", sum := "3151db829509f5582c1c75f5370fe6fda67027a2169c7e46f36bff298a901ebc", func := "forerunner/forerunnerlaw05.IndexTells", spec := "indexTells", recurses := true, apart := false }
def IndexTellsSaid : Prop := indexTellsRow.holds Try.pinned (OpenSpec.ofChange indexTellsSpec)

/-- ITS FALSE NEIGHBOUR: 'it returns false'. Refute it at one input. -/
def indexTellsWrong : ChangeSpec := { name := "indexTells", fn := fun _ => fun
  | [d1, d2] => { results := [.lit (.bool false)], args := [d1, d2] }
  | _ => none }
def IndexTellsWrongFalsely : Prop := indexTellsRow.holds Try.pinned (OpenSpec.ofChange indexTellsWrong)

/-- 'forerunnerlaw05.IndexFull': WHATEVER THE INPUT: true; the input reads as it did. -/
def indexFullSpec : ChangeSpec := { name := "indexFull", fn := fun _ => fun
  | [d1, d2, d3] => { results := [.lit (.bool true)], args := [d1, d2, d3] }
  | _ => none }
def indexFullRow : OpenClaim := { program := "ytajphhalneaihaa", sum := "3151db829509f5582c1c75f5370fe6fda67027a2169c7e46f36bff298a901ebc", func := "forerunner/forerunnerlaw05.IndexFull", spec := "indexFull", recurses := true, apart := false }
def IndexFullSaid : Prop := indexFullRow.holds Try.pinned (OpenSpec.ofChange indexFullSpec)

/-- ITS FALSE NEIGHBOUR: 'it returns false'. Refute it at one input. -/
def indexFullWrong : ChangeSpec := { name := "indexFull", fn := fun _ => fun
  | [d1, d2, d3] => { results := [.lit (.bool false)], args := [d1, d2, d3] }
  | _ => none }
def IndexFullWrongFalsely : Prop := indexFullRow.holds Try.pinned (OpenSpec.ofChange indexFullWrong)

/-- 'forerunnerlaw05.IndexSorted': WHATEVER THE INPUT: true; the input reads as it did. -/
def indexSortedSpec : ChangeSpec := { name := "indexSorted", fn := fun _ => fun
  | [d1, d2] => { results := [.lit (.bool true)], args := [d1, d2] }
  | _ => none }
def indexSortedRow : OpenClaim := { program := "ytajphhalneaihaa", sum := "3151db829509f5582c1c75f5370fe6fda67027a2169c7e46f36bff298a901ebc", func := "forerunner/forerunnerlaw05.IndexSorted", spec := "indexSorted", recurses := true, apart := false }
def IndexSortedSaid : Prop := indexSortedRow.holds Try.pinned (OpenSpec.ofChange indexSortedSpec)

/-- ITS FALSE NEIGHBOUR: 'it returns false'. Refute it at one input. -/
def indexSortedWrong : ChangeSpec := { name := "indexSorted", fn := fun _ => fun
  | [d1, d2] => { results := [.lit (.bool false)], args := [d1, d2] }
  | _ => none }
def IndexSortedWrongFalsely : Prop := indexSortedRow.holds Try.pinned (OpenSpec.ofChange indexSortedWrong)

/-- 'forerunnerlaw05.IndexHome': WHATEVER THE INPUT: true; the input reads as it did. -/
def indexHomeSpec : ChangeSpec := { name := "indexHome", fn := fun _ => fun
  | [d1, d2, d3] => { results := [.lit (.bool true)], args := [d1, d2, d3] }
  | _ => none }
def indexHomeRow : OpenClaim := { program := "ytajphhalneaihaa", sum := "3151db829509f5582c1c75f5370fe6fda67027a2169c7e46f36bff298a901ebc", func := "forerunner/forerunnerlaw05.IndexHome", spec := "indexHome", recurses := true, apart := false }
def IndexHomeSaid : Prop := indexHomeRow.holds Try.pinned (OpenSpec.ofChange indexHomeSpec)

/-- ITS FALSE NEIGHBOUR: 'it returns false'. Refute it at one input. -/
def indexHomeWrong : ChangeSpec := { name := "indexHome", fn := fun _ => fun
  | [d1, d2, d3] => { results := [.lit (.bool false)], args := [d1, d2, d3] }
  | _ => none }
def IndexHomeWrongFalsely : Prop := indexHomeRow.holds Try.pinned (OpenSpec.ofChange indexHomeWrong)

/- THE SECOND FORM. 'bulk': how many values and letters a reading holds, each counted each time it is reached (what is shared counts as often as it is met; a slice's spare places count too). A statement '..UptoSaid' is the law's where the arguments, and the package variables that the reading takes, are together of bulk at most 1048576: NARROWER than '..Said'. Prove '..Said' where nothing that the law and all that it calls make is longer than what came in: it says more and counts as full. Else prove '..UptoSaid'. A law counts once. -/
mutual
def uptoBulk {H : Type} : DataW H → Nat
  | .lit (.string bytes) => bytes.length + 1
  | .lit _ => 1
  | .nil => 1
  | .ptr d => uptoBulk d + 1
  | .slice elems spare => uptoBulkAll elems + uptoBulkAll spare + 1
  | .agg parts => uptoBulkAll parts + 1
  | .iface _ d => uptoBulk d + 1
  | .map entries => uptoBulkEntries entries + 1
  | .held _ => 1
def uptoBulkAll {H : Type} : List (DataW H) → Nat
  | [] => 0
  | d :: r => uptoBulk d + uptoBulkAll r
def uptoBulkEntries {H : Type} : List (Lit × DataW H) → Nat
  | [] => 0
  | x :: r => uptoBulkEntry x + uptoBulkEntries r
def uptoBulkEntry {H : Type} : Lit × DataW H → Nat
  | (.string bytes, d) => bytes.length + uptoBulk d + 1
  | (_, d) => uptoBulk d + 1
 end
def uptoSmall : (H : Type) → List (DataW H) → Bool := fun _ ds => decide (uptoBulkAll ds ≤ 1048576)
def OpenSpec.upto (s : _root_.Go.ChangeSpec) : _root_.Go.OpenSpec := { _root_.Go.OpenSpec.ofChange s with cond := some uptoSmall }

/-- 'forerunnerlaw05.IndexPlays', WHERE WHAT IT READS IS OF BULK AT MOST 1048576: true; the input reads as it did. -/
def indexPlaysUptoRow : OpenClaim := { program := "ytajphhalneaihaa", sum := "3151db829509f5582c1c75f5370fe6fda67027a2169c7e46f36bff298a901ebc", func := "forerunner/forerunnerlaw05.IndexPlays", spec := "indexPlays", recurses := true, apart := false, narrowed := true }
def IndexPlaysUptoSaid : Prop := indexPlaysUptoRow.holds Try.pinned (OpenSpec.upto indexPlaysSpec)

/-- 'forerunnerlaw05.IndexTells', WHERE WHAT IT READS IS OF BULK AT MOST 1048576: true; the input reads as it did. -/
def indexTellsUptoRow : OpenClaim := { program := "ytajphhalneaihaa", sum := "3151db829509f5582c1c75f5370fe6fda67027a2169c7e46f36bff298a901ebc", func := "forerunner/forerunnerlaw05.IndexTells", spec := "indexTells", recurses := true, apart := false, narrowed := true }
def IndexTellsUptoSaid : Prop := indexTellsUptoRow.holds Try.pinned (OpenSpec.upto indexTellsSpec)

/-- 'forerunnerlaw05.IndexFull', WHERE WHAT IT READS IS OF BULK AT MOST 1048576: true; the input reads as it did. -/
def indexFullUptoRow : OpenClaim := { program := "ytajphhalneaihaa", sum := "3151db829509f5582c1c75f5370fe6fda67027a2169c7e46f36bff298a901ebc", func := "forerunner/forerunnerlaw05.IndexFull", spec := "indexFull", recurses := true, apart := false, narrowed := true }
def IndexFullUptoSaid : Prop := indexFullUptoRow.holds Try.pinned (OpenSpec.upto indexFullSpec)

/-- 'forerunnerlaw05.IndexSorted', WHERE WHAT IT READS IS OF BULK AT MOST 1048576: true; the input reads as it did. -/
def indexSortedUptoRow : OpenClaim := { program := "ytajphhalneaihaa", sum := "3151db829509f5582c1c75f5370fe6fda67027a2169c7e46f36bff298a901ebc", func := "forerunner/forerunnerlaw05.IndexSorted", spec := "indexSorted", recurses := true, apart := false, narrowed := true }
def IndexSortedUptoSaid : Prop := indexSortedUptoRow.holds Try.pinned (OpenSpec.upto indexSortedSpec)

/-- 'forerunnerlaw05.IndexHome', WHERE WHAT IT READS IS OF BULK AT MOST 1048576: true; the input reads as it did. -/
def indexHomeUptoRow : OpenClaim := { program := "ytajphhalneaihaa", sum := "3151db829509f5582c1c75f5370fe6fda67027a2169c7e46f36bff298a901ebc", func := "forerunner/forerunnerlaw05.IndexHome", spec := "indexHome", recurses := true, apart := false, narrowed := true }
def IndexHomeUptoSaid : Prop := indexHomeUptoRow.holds Try.pinned (OpenSpec.upto indexHomeSpec)

end Rows
end Go.Proofs.Ytajphhalneaihaa
