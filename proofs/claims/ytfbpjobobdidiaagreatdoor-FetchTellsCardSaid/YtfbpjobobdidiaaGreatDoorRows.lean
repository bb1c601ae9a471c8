/-
  NARROWER THAN 'FOR EVERY INPUT', by the rows' own cells (each row's printed sentence says how): FetchApart: laid · FetchOrder: laid · FetchTells: laid · FetchDrains: laid · FetchJoins: laid · FetchSpans: laid.
  DERIVED. THE GIVEN ROWS OF THIS SEAT. 6 by the template 'for every input the law returns true; each argument reads behind the call as it read before'; 0 by the template 'total and deterministic' (their statements: YtfbpjobobdidiaaGreatDoorTotals.lean).
  GIVEN WITH THE SEED: the statements are not yours to turn. If you find one false, say at which input.
  Laid BY PROGRAM, IN A SANDBOX (cutbox-rows.mjs): the forced cells as the released guide's own fill.sh prints them over the translation 3cba69438fe03b28… (all of the seat's roots in one cut). By AI agents, Wed Nov 11 2026. No macro, syntax, notation, axiom, sorry.
-/
import Derived.Test.YtfbpjobobdidiaaGreatDoorChecked
import GoSem.Claim
import GoSem.ClaimJoined
import GoSem.ClaimMapViews
import Derived.JoinedTies
import Derived.KernelRfl
namespace Go.Proofs.YtfbpjobobdidiaaGreatDoor
/- THE CELL 'sum', in the pinned program and in every row, IS THE sha256 OF THE DUMP (.gsa) THAT YtfbpjobobdidiaaGreatDoorProg.lean LOADS. Nothing in Lean hashes anything: it is a label: what it is worth is what the hold of that sum in a sandbox is worth. -/
noncomputable def Tryz.pinned : Pinned := { name := "ytfbpjobobdidiaagreatdoor", sum := "3cba69438fe03b28b43d30260e52d9901503e924418491a9ac8b52355ded82a5", checked := Tryz.checked }
namespace Rows
def none {H : Type} : Left H := { results := [], args := [] }

/- WHAT THE LISTED PACKAGE-LEVEL VARIABLES READ AS WHEN THE CALL BEGINS. Each datum BY PROGRAM (the guide's laid-datum.mjs) off the statement by which the dump's own 'gosem.cut.vars' lays the variable. In a bare row this is a premise. The card (YtfbpjobobdidiaaGreatDoorCards.lean) ties it to the program's text. -/
def laid_forerunner_ask_bounds {H : Type} : DataW H := .agg [.agg [.lit (.int .i64 1), .lit (.int .i64 256)], .agg [.lit (.int .i64 1), .lit (.int .i64 64)], .agg [.lit (.int .i64 1), .lit (.int .i64 64)], .agg [.lit (.int .i64 1), .lit (.int .i64 64)], .agg [.lit (.int .i64 0), .lit (.int .i64 64)], .agg [.lit (.int .i64 1), .lit (.int .i64 16)], .agg [.lit (.int .i64 1), .lit (.int .i64 8)], .agg [.lit (.int .i64 1), .lit (.int .i64 8)], .agg [.lit (.int .i64 1), .lit (.int .i64 16)], .agg [.lit (.int .i64 1), .lit (.int .i64 64)], .agg [.lit (.int .i64 1), .lit (.int .i64 16)], .agg [.lit (.int .i64 1), .lit (.int .i64 32)], .agg [.lit (.int .i64 1), .lit (.int .i64 64)], .agg [.lit (.int .i64 1), .lit (.int .i64 16)]]

/-- 'forerunnerlaw16.FetchApart': WHATEVER THE INPUT: true; the input reads as it did. -/
def fetchApartSpec : ChangeSpec := { name := "fetchApart", fn := fun _ => fun
  | [d1, d2] => { results := [.lit (.bool true)], args := [d1, d2] }
  | _ => none }
def fetchApartRow : OpenClaim := { program := "ytfbpjobobdidiaagreatdoor", sum := "3cba69438fe03b28b43d30260e52d9901503e924418491a9ac8b52355ded82a5", func := "forerunner/forerunnerlaw16.FetchApart", spec := "fetchApart", unfollowed := true, recurses := true, named := ["forerunner/ask.bounds"], plainKeys := false, apart := false, laid := [("forerunner/ask.bounds", laid_forerunner_ask_bounds)] }
def FetchApartSaid : Prop := fetchApartRow.holds Tryz.pinned (OpenSpec.ofChange fetchApartSpec)

/-- ITS FALSE NEIGHBOUR: 'it returns false'. Refute it at one input. -/
def fetchApartWrong : ChangeSpec := { name := "fetchApart", fn := fun _ => fun
  | [d1, d2] => { results := [.lit (.bool false)], args := [d1, d2] }
  | _ => none }
def FetchApartWrongFalsely : Prop := fetchApartRow.holds Tryz.pinned (OpenSpec.ofChange fetchApartWrong)

/-- 'forerunnerlaw16.FetchOrder': WHATEVER THE INPUT: true; the input reads as it did. -/
def fetchOrderSpec : ChangeSpec := { name := "fetchOrder", fn := fun _ => fun
  | [d1, d2] => { results := [.lit (.bool true)], args := [d1, d2] }
  | _ => none }
def fetchOrderRow : OpenClaim := { program := "ytfbpjobobdidiaagreatdoor", sum := "3cba69438fe03b28b43d30260e52d9901503e924418491a9ac8b52355ded82a5", func := "forerunner/forerunnerlaw16.FetchOrder", spec := "fetchOrder", unfollowed := true, recurses := true, named := ["forerunner/ask.bounds"], plainKeys := false, apart := false, laid := [("forerunner/ask.bounds", laid_forerunner_ask_bounds)] }
def FetchOrderSaid : Prop := fetchOrderRow.holds Tryz.pinned (OpenSpec.ofChange fetchOrderSpec)

/-- ITS FALSE NEIGHBOUR: 'it returns false'. Refute it at one input. -/
def fetchOrderWrong : ChangeSpec := { name := "fetchOrder", fn := fun _ => fun
  | [d1, d2] => { results := [.lit (.bool false)], args := [d1, d2] }
  | _ => none }
def FetchOrderWrongFalsely : Prop := fetchOrderRow.holds Tryz.pinned (OpenSpec.ofChange fetchOrderWrong)

/-- 'forerunnerlaw16.FetchTells': WHATEVER THE INPUT: true; the input reads as it did. -/
def fetchTellsSpec : ChangeSpec := { name := "fetchTells", fn := fun _ => fun
  | [d1, d2] => { results := [.lit (.bool true)], args := [d1, d2] }
  | _ => none }
def fetchTellsRow : OpenClaim := { program := "ytfbpjobobdidiaagreatdoor", sum := "3cba69438fe03b28b43d30260e52d9901503e924418491a9ac8b52355ded82a5", func := "forerunner/forerunnerlaw16.FetchTells", spec := "fetchTells", unfollowed := true, recurses := true, named := ["forerunner/ask.bounds"], plainKeys := false, apart := false, laid := [("forerunner/ask.bounds", laid_forerunner_ask_bounds)] }
def FetchTellsSaid : Prop := fetchTellsRow.holds Tryz.pinned (OpenSpec.ofChange fetchTellsSpec)

/-- ITS FALSE NEIGHBOUR: 'it returns false'. Refute it at one input. -/
def fetchTellsWrong : ChangeSpec := { name := "fetchTells", fn := fun _ => fun
  | [d1, d2] => { results := [.lit (.bool false)], args := [d1, d2] }
  | _ => none }
def FetchTellsWrongFalsely : Prop := fetchTellsRow.holds Tryz.pinned (OpenSpec.ofChange fetchTellsWrong)

/-- 'forerunnerlaw16.FetchDrains': WHATEVER THE INPUT: true; the input reads as it did. -/
def fetchDrainsSpec : ChangeSpec := { name := "fetchDrains", fn := fun _ => fun
  | [d1, d2, d3] => { results := [.lit (.bool true)], args := [d1, d2, d3] }
  | _ => none }
def fetchDrainsRow : OpenClaim := { program := "ytfbpjobobdidiaagreatdoor", sum := "3cba69438fe03b28b43d30260e52d9901503e924418491a9ac8b52355ded82a5", func := "forerunner/forerunnerlaw16.FetchDrains", spec := "fetchDrains", unfollowed := true, recurses := true, named := ["forerunner/ask.bounds"], plainKeys := false, apart := false, laid := [("forerunner/ask.bounds", laid_forerunner_ask_bounds)] }
def FetchDrainsSaid : Prop := fetchDrainsRow.holds Tryz.pinned (OpenSpec.ofChange fetchDrainsSpec)

/-- ITS FALSE NEIGHBOUR: 'it returns false'. Refute it at one input. -/
def fetchDrainsWrong : ChangeSpec := { name := "fetchDrains", fn := fun _ => fun
  | [d1, d2, d3] => { results := [.lit (.bool false)], args := [d1, d2, d3] }
  | _ => none }
def FetchDrainsWrongFalsely : Prop := fetchDrainsRow.holds Tryz.pinned (OpenSpec.ofChange fetchDrainsWrong)

/-- 'forerunnerlaw16.FetchJoins': WHATEVER THE INPUT: true; the input reads as it did. -/
def fetchJoinsSpec : ChangeSpec := { name := "fetchJoins", fn := fun _ => fun
  | [d1, d2, d3] => { results := [.lit (.bool true)], args := [d1, d2, d3] }
  | _ => none }
def fetchJoinsRow : OpenClaim := { program := "ytfbpjobobdidiaagreatdoor", sum := "3cba69438fe03b28b43d30260e52d9901503e924418491a9ac8b52355ded82a5", func := "forerunner/forerunnerlaw16.FetchJoins", spec := "fetchJoins", unfollowed := true, recurses := true, named := ["forerunner/ask.bounds"], plainKeys := false, apart := false, laid := [("forerunner/ask.bounds", laid_forerunner_ask_bounds)] }
def FetchJoinsSaid : Prop := fetchJoinsRow.holds Tryz.pinned (OpenSpec.ofChange fetchJoinsSpec)

/-- ITS FALSE NEIGHBOUR: 'it returns false'. Refute it at one input. -/
def fetchJoinsWrong : ChangeSpec := { name := "fetchJoins", fn := fun _ => fun
  | [d1, d2, d3] => { results := [.lit (.bool false)], args := [d1, d2, d3] }
  | _ => none }
def FetchJoinsWrongFalsely : Prop := fetchJoinsRow.holds Tryz.pinned (OpenSpec.ofChange fetchJoinsWrong)

/-- 'forerunnerlaw16.FetchSpans': WHATEVER THE INPUT: true; the input reads as it did. -/
def fetchSpansSpec : ChangeSpec := { name := "fetchSpans", fn := fun _ => fun
  | [d1, d2, d3] => { results := [.lit (.bool true)], args := [d1, d2, d3] }
  | _ => none }
def fetchSpansRow : OpenClaim := { program := "ytfbpjobobdidiaagreatdoor", sum := "3cba69438fe03b28b43d30260e52d9901503e924418491a9ac8b52355ded82a5", func := "forerunner/forerunnerlaw16.FetchSpans", spec := "fetchSpans", unfollowed := true, recurses := true, named := ["forerunner/ask.bounds"], plainKeys := false, apart := false, laid := [("forerunner/ask.bounds", laid_forerunner_ask_bounds)] }
def FetchSpansSaid : Prop := fetchSpansRow.holds Tryz.pinned (OpenSpec.ofChange fetchSpansSpec)

/-- ITS FALSE NEIGHBOUR: 'it returns false'. Refute it at one input. -/
def fetchSpansWrong : ChangeSpec := { name := "fetchSpans", fn := fun _ => fun
  | [d1, d2, d3] => { results := [.lit (.bool false)], args := [d1, d2, d3] }
  | _ => none }
def FetchSpansWrongFalsely : Prop := fetchSpansRow.holds Tryz.pinned (OpenSpec.ofChange fetchSpansWrong)

/- THE SECOND FORM. 'bulk': how many values and letters a reading holds, each counted each time it is reached (what is shared counts as often as it is met; a slice's spare places count too). A statement '..UptoSaid' is the law's where the arguments, and the package variables that the reading takes, are together of bulk at most 1048576: NARROWER than '..Said'. Prove '..Said' where nothing that the law and all that it calls make is longer than what came in: it says more and counts as full. Else prove '..UptoSaid'. A law counts once. -/
mutual
def uptoBulk {H : Type} : DataW H → Nat
  | .lit (.string bytes) => bytes.length + 1
  | .lit _ => 1
  | .nil => 1
  | .ptr d => uptoBulk d + 1
  | .slice elems spare => uptoBulkAll elems + uptoBulkAll spare + 1
  | .agg parts => uptoBulkAll parts + 1
  | .iface _ d => uptoBulk d + 1
  | .map entries => uptoBulkEntries entries + 1
  | .held _ => 1
def uptoBulkAll {H : Type} : List (DataW H) → Nat
  | [] => 0
  | d :: r => uptoBulk d + uptoBulkAll r
def uptoBulkEntries {H : Type} : List (Lit × DataW H) → Nat
  | [] => 0
  | x :: r => uptoBulkEntry x + uptoBulkEntries r
def uptoBulkEntry {H : Type} : Lit × DataW H → Nat
  | (.string bytes, d) => bytes.length + uptoBulk d + 1
  | (_, d) => uptoBulk d + 1
 end
def uptoSmall : (H : Type) → List (DataW H) → Bool := fun _ ds => decide (uptoBulkAll ds ≤ 1048576)
def OpenSpec.upto (s : _root_.Go.ChangeSpec) : _root_.Go.OpenSpec := { _root_.Go.OpenSpec.ofChange s with cond := some uptoSmall }

/-- 'forerunnerlaw16.FetchApart', WHERE WHAT IT READS IS OF BULK AT MOST 1048576: true; the input reads as it did. -/
def fetchApartUptoRow : OpenClaim := { program := "ytfbpjobobdidiaagreatdoor", sum := "3cba69438fe03b28b43d30260e52d9901503e924418491a9ac8b52355ded82a5", func := "forerunner/forerunnerlaw16.FetchApart", spec := "fetchApart", unfollowed := true, recurses := true, named := ["forerunner/ask.bounds"], plainKeys := false, apart := false, laid := [("forerunner/ask.bounds", laid_forerunner_ask_bounds)], narrowed := true }
def FetchApartUptoSaid : Prop := fetchApartUptoRow.holds Tryz.pinned (OpenSpec.upto fetchApartSpec)

/-- 'forerunnerlaw16.FetchOrder', WHERE WHAT IT READS IS OF BULK AT MOST 1048576: true; the input reads as it did. -/
def fetchOrderUptoRow : OpenClaim := { program := "ytfbpjobobdidiaagreatdoor", sum := "3cba69438fe03b28b43d30260e52d9901503e924418491a9ac8b52355ded82a5", func := "forerunner/forerunnerlaw16.FetchOrder", spec := "fetchOrder", unfollowed := true, recurses := true, named := ["forerunner/ask.bounds"], plainKeys := false, apart := false, laid := [("forerunner/ask.bounds", laid_forerunner_ask_bounds)], narrowed := true }
def FetchOrderUptoSaid : Prop := fetchOrderUptoRow.holds Tryz.pinned (OpenSpec.upto fetchOrderSpec)

/-- 'forerunnerlaw16.FetchTells', WHERE WHAT IT READS IS OF BULK AT MOST 1048576: true; the input reads as it did. -/
def fetchTellsUptoRow : OpenClaim := { program := "ytfbpjobobdidiaagreatdoor", sum := "3cba69438fe03b28b43d30260e52d9901503e924418491a9ac8b52355ded82a5", func := "forerunner/forerunnerlaw16.FetchTells", spec := "fetchTells", unfollowed := true, recurses := true, named := ["forerunner/ask.bounds"], plainKeys := false, apart := false, laid := [("forerunner/ask.bounds", laid_forerunner_ask_bounds)], narrowed := true }
def FetchTellsUptoSaid : Prop := fetchTellsUptoRow.holds Tryz.pinned (OpenSpec.upto fetchTellsSpec)

/-- 'forerunnerlaw16.FetchDrains', WHERE WHAT IT READS IS OF BULK AT MOST 1048576: true; the input reads as it did. -/
def fetchDrainsUptoRow : OpenClaim := { program := "ytfbpjobobdidiaagreatdoor", sum := "3cba69438fe03b28b43d30260e52d9901503e924418491a9ac8b52355ded82a5", func := "forerunner/forerunnerlaw16.FetchDrains", spec := "fetchDrains", unfollowed := true, recurses := true, named := ["forerunner/ask.bounds"], plainKeys := false, apart := false, laid := [("forerunner/ask.bounds", laid_forerunner_ask_bounds)], narrowed := true }
def FetchDrainsUptoSaid : Prop := fetchDrainsUptoRow.holds Tryz.pinned (OpenSpec.upto fetchDrainsSpec)

/-- 'forerunnerlaw16.FetchJoins', WHERE WHAT IT READS IS OF BULK AT MOST 1048576: true; the input reads as it did. -/
def fetchJoinsUptoRow : OpenClaim := { program := "ytfbpjobobdidiaagreatdoor", sum := "3cba69438fe03b28b43d30260e52d9901503e924418491a9ac8b52355ded82a5", func := "forerunner/forerunnerlaw16.FetchJoins", spec := "fetchJoins", unfollowed := true, recurses := true, named := ["forerunner/ask.bounds"], plainKeys := false, apart := false, laid := [("forerunner/ask.bounds", laid_forerunner_ask_bounds)], narrowed := true }
def FetchJoinsUptoSaid : Prop := fetchJoinsUptoRow.holds Tryz.pinned (OpenSpec.upto fetchJoinsSpec)

/-- 'forerunnerlaw16.FetchSpans', WHERE WHAT IT READS IS OF BULK AT MOST 1048576: true; the input reads as it did. -/
def fetchSpansUptoRow : OpenClaim := { program := "ytfbpjobobdidiaagreatdoor", sum := "3cba69438fe03b28b43d30260e52d9901503e924418491a9ac8b52355ded82a5", func := "forerunner/forerunnerlaw16.FetchSpans", spec := "fetchSpans", unfollowed := true, recurses := true, named := ["forerunner/ask.bounds"], plainKeys := false, apart := false, laid := [("forerunner/ask.bounds", laid_forerunner_ask_bounds)], narrowed := true }
def FetchSpansUptoSaid : Prop := fetchSpansUptoRow.holds Tryz.pinned (OpenSpec.upto fetchSpansSpec)

end Rows
end Go.Proofs.YtfbpjobobdidiaaGreatDoor
