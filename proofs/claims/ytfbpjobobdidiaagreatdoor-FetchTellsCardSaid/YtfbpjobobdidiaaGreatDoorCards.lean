/-
  DERIVED. GIVEN WITH THE SEED: THE CARDS: each row of YtfbpjobobdidiaaGreatDoorRows.lean that lists a variable, with what it lists TIED to the program's text (the seventh form; the later family's looks); each row that meets fmt, with fmt's text TOLD by the authors' own Lean function (tested against real Go, not proved from fmt's source: count such statements apart). THE CARD IS WHAT COUNTS. Prove the row's statement (the work); the ties are given (YtfbpjobobdidiaaGreatDoorTie.lean); close each card by the builder's one call (the guide's Derived/Test/ToyasCard.lean, 'card_holds'). Laid BY PROGRAM, IN A SANDBOX (cutbox-door.mjs). By AI agents, Wed Nov 11 2026. No macro, syntax, notation, axiom, sorry.
-/
import Derived.Test.YtfbpjobobdidiaaGreatDoorRows
import GoSem.ClaimSeven
namespace Go.Proofs.YtfbpjobobdidiaaGreatDoor
namespace Rows

/-- THE TIED CARD OF 'forerunnerlaw16.FetchApart'. -/
def fetchApartCard : Claim7 := { stood := { row := fetchApartRow, standIns := [], harness := (true, "564228ed393d57c4b0ab062f5d316b7d65287d55b3365b7377dd3069374d72da"), looks := true }, kinds := [], alts := [], laidByText := true, laidKinds := [.wider], laidTests := true, laidLooks := .later }
def FetchApartCardSaid : Prop := Claim7.holds Tryz.pinned (.plain (OpenSpec.ofChange fetchApartSpec)) fetchApartCard

/-- THE TIED CARD OF 'forerunnerlaw16.FetchOrder'. -/
def fetchOrderCard : Claim7 := { stood := { row := fetchOrderRow, standIns := [], harness := (true, "564228ed393d57c4b0ab062f5d316b7d65287d55b3365b7377dd3069374d72da"), looks := true }, kinds := [], alts := [], laidByText := true, laidKinds := [.wider], laidTests := true, laidLooks := .later }
def FetchOrderCardSaid : Prop := Claim7.holds Tryz.pinned (.plain (OpenSpec.ofChange fetchOrderSpec)) fetchOrderCard

/-- THE TIED CARD OF 'forerunnerlaw16.FetchTells'. -/
def fetchTellsCard : Claim7 := { stood := { row := fetchTellsRow, standIns := [], harness := (true, "564228ed393d57c4b0ab062f5d316b7d65287d55b3365b7377dd3069374d72da"), looks := true }, kinds := [], alts := [], laidByText := true, laidKinds := [.wider], laidTests := true, laidLooks := .later }
def FetchTellsCardSaid : Prop := Claim7.holds Tryz.pinned (.plain (OpenSpec.ofChange fetchTellsSpec)) fetchTellsCard

/-- THE TIED CARD OF 'forerunnerlaw16.FetchDrains'. -/
def fetchDrainsCard : Claim7 := { stood := { row := fetchDrainsRow, standIns := [], harness := (true, "564228ed393d57c4b0ab062f5d316b7d65287d55b3365b7377dd3069374d72da"), looks := true }, kinds := [], alts := [], laidByText := true, laidKinds := [.wider], laidTests := true, laidLooks := .later }
def FetchDrainsCardSaid : Prop := Claim7.holds Tryz.pinned (.plain (OpenSpec.ofChange fetchDrainsSpec)) fetchDrainsCard

/-- THE TIED CARD OF 'forerunnerlaw16.FetchJoins'. -/
def fetchJoinsCard : Claim7 := { stood := { row := fetchJoinsRow, standIns := [], harness := (true, "564228ed393d57c4b0ab062f5d316b7d65287d55b3365b7377dd3069374d72da"), looks := true }, kinds := [], alts := [], laidByText := true, laidKinds := [.wider], laidTests := true, laidLooks := .later }
def FetchJoinsCardSaid : Prop := Claim7.holds Tryz.pinned (.plain (OpenSpec.ofChange fetchJoinsSpec)) fetchJoinsCard

/-- THE TIED CARD OF 'forerunnerlaw16.FetchSpans'. -/
def fetchSpansCard : Claim7 := { stood := { row := fetchSpansRow, standIns := [], harness := (true, "564228ed393d57c4b0ab062f5d316b7d65287d55b3365b7377dd3069374d72da"), looks := true }, kinds := [], alts := [], laidByText := true, laidKinds := [.wider], laidTests := true, laidLooks := .later }
def FetchSpansCardSaid : Prop := Claim7.holds Tryz.pinned (.plain (OpenSpec.ofChange fetchSpansSpec)) fetchSpansCard

/-- THE SECOND FORM's CARD OF 'forerunnerlaw16.FetchApart'. -/
def fetchApartUptoCard : Claim7 := { stood := { row := fetchApartUptoRow, standIns := [], harness := (true, "564228ed393d57c4b0ab062f5d316b7d65287d55b3365b7377dd3069374d72da"), looks := true }, kinds := [], alts := [], laidByText := true, laidKinds := [.wider], laidTests := true, laidLooks := .later }
def FetchApartUptoCardSaid : Prop := Claim7.holds Tryz.pinned (.plain (OpenSpec.upto fetchApartSpec)) fetchApartUptoCard

/-- THE SECOND FORM's CARD OF 'forerunnerlaw16.FetchOrder'. -/
def fetchOrderUptoCard : Claim7 := { stood := { row := fetchOrderUptoRow, standIns := [], harness := (true, "564228ed393d57c4b0ab062f5d316b7d65287d55b3365b7377dd3069374d72da"), looks := true }, kinds := [], alts := [], laidByText := true, laidKinds := [.wider], laidTests := true, laidLooks := .later }
def FetchOrderUptoCardSaid : Prop := Claim7.holds Tryz.pinned (.plain (OpenSpec.upto fetchOrderSpec)) fetchOrderUptoCard

/-- THE SECOND FORM's CARD OF 'forerunnerlaw16.FetchTells'. -/
def fetchTellsUptoCard : Claim7 := { stood := { row := fetchTellsUptoRow, standIns := [], harness := (true, "564228ed393d57c4b0ab062f5d316b7d65287d55b3365b7377dd3069374d72da"), looks := true }, kinds := [], alts := [], laidByText := true, laidKinds := [.wider], laidTests := true, laidLooks := .later }
def FetchTellsUptoCardSaid : Prop := Claim7.holds Tryz.pinned (.plain (OpenSpec.upto fetchTellsSpec)) fetchTellsUptoCard

/-- THE SECOND FORM's CARD OF 'forerunnerlaw16.FetchDrains'. -/
def fetchDrainsUptoCard : Claim7 := { stood := { row := fetchDrainsUptoRow, standIns := [], harness := (true, "564228ed393d57c4b0ab062f5d316b7d65287d55b3365b7377dd3069374d72da"), looks := true }, kinds := [], alts := [], laidByText := true, laidKinds := [.wider], laidTests := true, laidLooks := .later }
def FetchDrainsUptoCardSaid : Prop := Claim7.holds Tryz.pinned (.plain (OpenSpec.upto fetchDrainsSpec)) fetchDrainsUptoCard

/-- THE SECOND FORM's CARD OF 'forerunnerlaw16.FetchJoins'. -/
def fetchJoinsUptoCard : Claim7 := { stood := { row := fetchJoinsUptoRow, standIns := [], harness := (true, "564228ed393d57c4b0ab062f5d316b7d65287d55b3365b7377dd3069374d72da"), looks := true }, kinds := [], alts := [], laidByText := true, laidKinds := [.wider], laidTests := true, laidLooks := .later }
def FetchJoinsUptoCardSaid : Prop := Claim7.holds Tryz.pinned (.plain (OpenSpec.upto fetchJoinsSpec)) fetchJoinsUptoCard

/-- THE SECOND FORM's CARD OF 'forerunnerlaw16.FetchSpans'. -/
def fetchSpansUptoCard : Claim7 := { stood := { row := fetchSpansUptoRow, standIns := [], harness := (true, "564228ed393d57c4b0ab062f5d316b7d65287d55b3365b7377dd3069374d72da"), looks := true }, kinds := [], alts := [], laidByText := true, laidKinds := [.wider], laidTests := true, laidLooks := .later }
def FetchSpansUptoCardSaid : Prop := Claim7.holds Tryz.pinned (.plain (OpenSpec.upto fetchSpansSpec)) fetchSpansUptoCard
end Rows
end Go.Proofs.YtfbpjobobdidiaaGreatDoor
