/-
  NARROWER THAN 'FOR EVERY INPUT', by the rows' own cells (each row's printed sentence says how): ReplayPlays: laid · ReplayRuns: laid · ReplayHeld: laid · ReplayOldest: laid · ReplayMisses: laid.
  DERIVED. THE GIVEN ROWS OF THIS SEAT. 5 by the template 'for every input the law returns true; each argument reads behind the call as it read before'; 0 by the template 'total and deterministic' (their statements: YtlfnncahhbbmpaaGreatDoorTotals.lean).
  GIVEN WITH THE SEED: the statements are not yours to turn. If you find one false, say at which input.
  Laid BY PROGRAM, IN A SANDBOX (cutbox-rows.mjs): the forced cells as the released guide's own fill.sh prints them over the translation 01caf6c4b70dd5c3… (all of the seat's roots in one cut). By AI agents, Wed Nov 11 2026. No macro, syntax, notation, axiom, sorry.
-/
import Derived.Test.YtlfnncahhbbmpaaGreatDoorChecked
import GoSem.Claim
import GoSem.ClaimJoined
import GoSem.ClaimMapViews
import Derived.JoinedTies
import Derived.KernelRfl
namespace Go.Proofs.YtlfnncahhbbmpaaGreatDoor
/- THE CELL 'sum', in the pinned program and in every row, IS THE sha256 OF THE DUMP (.gsa) THAT YtlfnncahhbbmpaaGreatDoorProg.lean LOADS. Nothing in Lean hashes anything: it is a label: what it is worth is what the hold of that sum in a sandbox is worth. -/
noncomputable def Tryz.pinned : Pinned := { name := "ytlfnncahhbbmpaagreatdoor", sum := "01caf6c4b70dd5c3e1b6d57c13ef4c4d587a6e3e035ac5771da0f8b8b91cdb04", checked := Tryz.checked }
namespace Rows
def none {H : Type} : Left H := { results := [], args := [] }

/- WHAT THE LISTED PACKAGE-LEVEL VARIABLES READ AS WHEN THE CALL BEGINS. Each datum BY PROGRAM (the guide's laid-datum.mjs) off the statement by which the dump's own 'gosem.cut.vars' lays the variable. In a bare row this is a premise. The card (YtlfnncahhbbmpaaGreatDoorCards.lean) ties it to the program's text. -/
def laid_forerunner_ask_bounds {H : Type} : DataW H := .agg [.agg [.lit (.int .i64 1), .lit (.int .i64 256)], .agg [.lit (.int .i64 1), .lit (.int .i64 64)], .agg [.lit (.int .i64 1), .lit (.int .i64 64)], .agg [.lit (.int .i64 1), .lit (.int .i64 64)], .agg [.lit (.int .i64 0), .lit (.int .i64 64)], .agg [.lit (.int .i64 1), .lit (.int .i64 16)], .agg [.lit (.int .i64 1), .lit (.int .i64 8)], .agg [.lit (.int .i64 1), .lit (.int .i64 8)], .agg [.lit (.int .i64 1), .lit (.int .i64 16)], .agg [.lit (.int .i64 1), .lit (.int .i64 64)], .agg [.lit (.int .i64 1), .lit (.int .i64 16)], .agg [.lit (.int .i64 1), .lit (.int .i64 32)], .agg [.lit (.int .i64 1), .lit (.int .i64 64)], .agg [.lit (.int .i64 1), .lit (.int .i64 16)]]

/-- 'forerunnerlaw19.ReplayPlays': WHATEVER THE INPUT: true; the input reads as it did. -/
def replayPlaysSpec : ChangeSpec := { name := "replayPlays", fn := fun _ => fun
  | [d1, d2] => { results := [.lit (.bool true)], args := [d1, d2] }
  | _ => none }
def replayPlaysRow : OpenClaim := { program := "ytlfnncahhbbmpaagreatdoor", sum := "01caf6c4b70dd5c3e1b6d57c13ef4c4d587a6e3e035ac5771da0f8b8b91cdb04", func := "forerunner/forerunnerlaw19.ReplayPlays", spec := "replayPlays", unfollowed := true, recurses := true, named := ["forerunner/ask.bounds"], apart := false, laid := [("forerunner/ask.bounds", laid_forerunner_ask_bounds)] }
def ReplayPlaysSaid : Prop := replayPlaysRow.holds Tryz.pinned (OpenSpec.ofChange replayPlaysSpec)

/-- ITS FALSE NEIGHBOUR: 'it returns false'. Refute it at one input. -/
def replayPlaysWrong : ChangeSpec := { name := "replayPlays", fn := fun _ => fun
  | [d1, d2] => { results := [.lit (.bool false)], args := [d1, d2] }
  | _ => none }
def ReplayPlaysWrongFalsely : Prop := replayPlaysRow.holds Tryz.pinned (OpenSpec.ofChange replayPlaysWrong)

/-- 'forerunnerlaw19.ReplayRuns': WHATEVER THE INPUT: true; the input reads as it did. -/
def replayRunsSpec : ChangeSpec := { name := "replayRuns", fn := fun _ => fun
  | [d1, d2] => { results := [.lit (.bool true)], args := [d1, d2] }
  | _ => none }
def replayRunsRow : OpenClaim := { program := "ytlfnncahhbbmpaagreatdoor", sum := "01caf6c4b70dd5c3e1b6d57c13ef4c4d587a6e3e035ac5771da0f8b8b91cdb04", func := "forerunner/forerunnerlaw19.ReplayRuns", spec := "replayRuns", unfollowed := true, recurses := true, named := ["forerunner/ask.bounds"], apart := false, laid := [("forerunner/ask.bounds", laid_forerunner_ask_bounds)] }
def ReplayRunsSaid : Prop := replayRunsRow.holds Tryz.pinned (OpenSpec.ofChange replayRunsSpec)

/-- ITS FALSE NEIGHBOUR: 'it returns false'. Refute it at one input. -/
def replayRunsWrong : ChangeSpec := { name := "replayRuns", fn := fun _ => fun
  | [d1, d2] => { results := [.lit (.bool false)], args := [d1, d2] }
  | _ => none }
def ReplayRunsWrongFalsely : Prop := replayRunsRow.holds Tryz.pinned (OpenSpec.ofChange replayRunsWrong)

/-- 'forerunnerlaw19.ReplayHeld': WHATEVER THE INPUT: true; the input reads as it did. -/
def replayHeldSpec : ChangeSpec := { name := "replayHeld", fn := fun _ => fun
  | [d1, d2] => { results := [.lit (.bool true)], args := [d1, d2] }
  | _ => none }
def replayHeldRow : OpenClaim := { program := "ytlfnncahhbbmpaagreatdoor", sum := "01caf6c4b70dd5c3e1b6d57c13ef4c4d587a6e3e035ac5771da0f8b8b91cdb04", func := "forerunner/forerunnerlaw19.ReplayHeld", spec := "replayHeld", unfollowed := true, recurses := true, named := ["forerunner/ask.bounds"], apart := false, laid := [("forerunner/ask.bounds", laid_forerunner_ask_bounds)] }
def ReplayHeldSaid : Prop := replayHeldRow.holds Tryz.pinned (OpenSpec.ofChange replayHeldSpec)

/-- ITS FALSE NEIGHBOUR: 'it returns false'. Refute it at one input. -/
def replayHeldWrong : ChangeSpec := { name := "replayHeld", fn := fun _ => fun
  | [d1, d2] => { results := [.lit (.bool false)], args := [d1, d2] }
  | _ => none }
def ReplayHeldWrongFalsely : Prop := replayHeldRow.holds Tryz.pinned (OpenSpec.ofChange replayHeldWrong)

/-- 'forerunnerlaw19.ReplayOldest': WHATEVER THE INPUT: true; the input reads as it did. -/
def replayOldestSpec : ChangeSpec := { name := "replayOldest", fn := fun _ => fun
  | [d1, d2, d3] => { results := [.lit (.bool true)], args := [d1, d2, d3] }
  | _ => none }
def replayOldestRow : OpenClaim := { program := "ytlfnncahhbbmpaagreatdoor", sum := "01caf6c4b70dd5c3e1b6d57c13ef4c4d587a6e3e035ac5771da0f8b8b91cdb04", func := "forerunner/forerunnerlaw19.ReplayOldest", spec := "replayOldest", unfollowed := true, recurses := true, named := ["forerunner/ask.bounds"], apart := false, laid := [("forerunner/ask.bounds", laid_forerunner_ask_bounds)] }
def ReplayOldestSaid : Prop := replayOldestRow.holds Tryz.pinned (OpenSpec.ofChange replayOldestSpec)

/-- ITS FALSE NEIGHBOUR: 'it returns false'. Refute it at one input. -/
def replayOldestWrong : ChangeSpec := { name := "replayOldest", fn := fun _ => fun
  | [d1, d2, d3] => { results := [.lit (.bool false)], args := [d1, d2, d3] }
  | _ => none }
def ReplayOldestWrongFalsely : Prop := replayOldestRow.holds Tryz.pinned (OpenSpec.ofChange replayOldestWrong)

/-- 'forerunnerlaw19.ReplayMisses': WHATEVER THE INPUT: true; the input reads as it did. -/
def replayMissesSpec : ChangeSpec := { name := "replayMisses", fn := fun _ => fun
  | [d1, d2] => { results := [.lit (.bool true)], args := [d1, d2] }
  | _ => none }
def replayMissesRow : OpenClaim := { program := "ytlfnncahhbbmpaagreatdoor", sum := "01caf6c4b70dd5c3e1b6d57c13ef4c4d587a6e3e035ac5771da0f8b8b91cdb04", func := "forerunner/forerunnerlaw19.ReplayMisses", spec := "replayMisses", unfollowed := true, recurses := true, named := ["forerunner/ask.bounds"], apart := false, laid := [("forerunner/ask.bounds", laid_forerunner_ask_bounds)] }
def ReplayMissesSaid : Prop := replayMissesRow.holds Tryz.pinned (OpenSpec.ofChange replayMissesSpec)

/-- ITS FALSE NEIGHBOUR: 'it returns false'. Refute it at one input. -/
def replayMissesWrong : ChangeSpec := { name := "replayMisses", fn := fun _ => fun
  | [d1, d2] => { results := [.lit (.bool false)], args := [d1, d2] }
  | _ => none }
def ReplayMissesWrongFalsely : Prop := replayMissesRow.holds Tryz.pinned (OpenSpec.ofChange replayMissesWrong)

/- THE SECOND FORM. 'bulk': how many values and letters a reading holds, each counted each time it is reached (what is shared counts as often as it is met; a slice's spare places count too). A statement '..UptoSaid' is the law's where the arguments, and the package variables that the reading takes, are together of bulk at most 1048576: NARROWER than '..Said'. Prove '..Said' where nothing that the law and all that it calls make is longer than what came in: it says more and counts as full. Else prove '..UptoSaid'. A law counts once. -/
mutual
def uptoBulk {H : Type} : DataW H → Nat
  | .lit (.string bytes) => bytes.length + 1
  | .lit _ => 1
  | .nil => 1
  | .ptr d => uptoBulk d + 1
  | .slice elems spare => uptoBulkAll elems + uptoBulkAll spare + 1
  | .agg parts => uptoBulkAll parts + 1
  | .iface _ d => uptoBulk d + 1
  | .map entries => uptoBulkEntries entries + 1
  | .held _ => 1
def uptoBulkAll {H : Type} : List (DataW H) → Nat
  | [] => 0
  | d :: r => uptoBulk d + uptoBulkAll r
def uptoBulkEntries {H : Type} : List (Lit × DataW H) → Nat
  | [] => 0
  | x :: r => uptoBulkEntry x + uptoBulkEntries r
def uptoBulkEntry {H : Type} : Lit × DataW H → Nat
  | (.string bytes, d) => bytes.length + uptoBulk d + 1
  | (_, d) => uptoBulk d + 1
 end
def uptoSmall : (H : Type) → List (DataW H) → Bool := fun _ ds => decide (uptoBulkAll ds ≤ 1048576)
def OpenSpec.upto (s : _root_.Go.ChangeSpec) : _root_.Go.OpenSpec := { _root_.Go.OpenSpec.ofChange s with cond := some uptoSmall }

/-- 'forerunnerlaw19.ReplayPlays', WHERE WHAT IT READS IS OF BULK AT MOST 1048576: true; the input reads as it did. -/
def replayPlaysUptoRow : OpenClaim := { program := "ytlfnncahhbbmpaagreatdoor", sum := "01caf6c4b70dd5c3e1b6d57c13ef4c4d587a6e3e035ac5771da0f8b8b91cdb04", func := "forerunner/forerunnerlaw19.ReplayPlays", spec := "replayPlays", unfollowed := true, recurses := true, named := ["forerunner/ask.bounds"], apart := false, laid := [("forerunner/ask.bounds", laid_forerunner_ask_bounds)], narrowed := true }
def ReplayPlaysUptoSaid : Prop := replayPlaysUptoRow.holds Tryz.pinned (OpenSpec.upto replayPlaysSpec)

/-- 'forerunnerlaw19.ReplayRuns', WHERE WHAT IT READS IS OF BULK AT MOST 1048576: true; the input reads as it did. -/
def replayRunsUptoRow : OpenClaim := { program := "ytlfnncahhbbmpaagreatdoor", sum := "01caf6c4b70dd5c3e1b6d57c13ef4c4d587a6e3e035ac5771da0f8b8b91cdb04", func := "forerunner/forerunnerlaw19.ReplayRuns", spec := "replayRuns", unfollowed := true, recurses := true, named := ["forerunner/ask.bounds"], apart := false, laid := [("forerunner/ask.bounds", laid_forerunner_ask_bounds)], narrowed := true }
def ReplayRunsUptoSaid : Prop := replayRunsUptoRow.holds Tryz.pinned (OpenSpec.upto replayRunsSpec)

/-- 'forerunnerlaw19.ReplayHeld', WHERE WHAT IT READS IS OF BULK AT MOST 1048576: true; the input reads as it did. -/
def replayHeldUptoRow : OpenClaim := { program := "ytlfnncahhbbmpaagreatdoor", sum := "01caf6c4b70dd5c3e1b6d57c13ef4c4d587a6e3e035ac5771da0f8b8b91cdb04", func := "forerunner/forerunnerlaw19.ReplayHeld", spec := "replayHeld", unfollowed := true, recurses := true, named := ["forerunner/ask.bounds"], apart := false, laid := [("forerunner/ask.bounds", laid_forerunner_ask_bounds)], narrowed := true }
def ReplayHeldUptoSaid : Prop := replayHeldUptoRow.holds Tryz.pinned (OpenSpec.upto replayHeldSpec)

/-- 'forerunnerlaw19.ReplayOldest', WHERE WHAT IT READS IS OF BULK AT MOST 1048576: true; the input reads as it did. -/
def replayOldestUptoRow : OpenClaim := { program := "ytlfnncahhbbmpaagreatdoor", sum := "01caf6c4b70dd5c3e1b6d57c13ef4c4d587a6e3e035ac5771da0f8b8b91cdb04", func := "forerunner/forerunnerlaw19.ReplayOldest", spec := "replayOldest", unfollowed := true, recurses := true, named := ["forerunner/ask.bounds"], apart := false, laid := [("forerunner/ask.bounds", laid_forerunner_ask_bounds)], narrowed := true }
def ReplayOldestUptoSaid : Prop := replayOldestUptoRow.holds Tryz.pinned (OpenSpec.upto replayOldestSpec)

/-- 'forerunnerlaw19.ReplayMisses', WHERE WHAT IT READS IS OF BULK AT MOST 1048576: true; the input reads as it did. -/
def replayMissesUptoRow : OpenClaim := { program := "ytlfnncahhbbmpaagreatdoor", sum := "01caf6c4b70dd5c3e1b6d57c13ef4c4d587a6e3e035ac5771da0f8b8b91cdb04", func := "forerunner/forerunnerlaw19.ReplayMisses", spec := "replayMisses", unfollowed := true, recurses := true, named := ["forerunner/ask.bounds"], apart := false, laid := [("forerunner/ask.bounds", laid_forerunner_ask_bounds)], narrowed := true }
def ReplayMissesUptoSaid : Prop := replayMissesUptoRow.holds Tryz.pinned (OpenSpec.upto replayMissesSpec)

end Rows
end Go.Proofs.YtlfnncahhbbmpaaGreatDoor
