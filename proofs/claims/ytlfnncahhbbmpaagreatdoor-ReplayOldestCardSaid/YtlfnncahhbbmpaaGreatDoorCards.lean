/-
  DERIVED. GIVEN WITH THE SEED: THE CARDS: each row of YtlfnncahhbbmpaaGreatDoorRows.lean that lists a variable, with what it lists TIED to the program's text (the seventh form; the later family's looks); each row that meets fmt, with fmt's text TOLD by the authors' own Lean function (tested against real Go, not proved from fmt's source: count such statements apart). THE CARD IS WHAT COUNTS. Prove the row's statement (the work); the ties are given (YtlfnncahhbbmpaaGreatDoorTie.lean); close each card by the builder's one call (the guide's Derived/Test/ToyasCard.lean, 'card_holds'). Laid BY PROGRAM, IN A SANDBOX (cutbox-door.mjs). By AI agents, Wed Nov 11 2026. No macro, syntax, notation, axiom, sorry.
-/
import Derived.Test.YtlfnncahhbbmpaaGreatDoorRows
import GoSem.ClaimSeven
namespace Go.Proofs.YtlfnncahhbbmpaaGreatDoor
namespace Rows

/-- THE TIED CARD OF 'forerunnerlaw19.ReplayPlays'. -/
def replayPlaysCard : Claim7 := { stood := { row := replayPlaysRow, standIns := [], harness := (true, "cea1a0a0593223cf778da2b71f7e3f40cf0bf95e4f418c32bdb9574511e3497b"), looks := true }, kinds := [], alts := [], laidByText := true, laidKinds := [.wider], laidTests := true, laidLooks := .later }
def ReplayPlaysCardSaid : Prop := Claim7.holds Tryz.pinned (.plain (OpenSpec.ofChange replayPlaysSpec)) replayPlaysCard

/-- THE TIED CARD OF 'forerunnerlaw19.ReplayRuns'. -/
def replayRunsCard : Claim7 := { stood := { row := replayRunsRow, standIns := [], harness := (true, "cea1a0a0593223cf778da2b71f7e3f40cf0bf95e4f418c32bdb9574511e3497b"), looks := true }, kinds := [], alts := [], laidByText := true, laidKinds := [.wider], laidTests := true, laidLooks := .later }
def ReplayRunsCardSaid : Prop := Claim7.holds Tryz.pinned (.plain (OpenSpec.ofChange replayRunsSpec)) replayRunsCard

/-- THE TIED CARD OF 'forerunnerlaw19.ReplayHeld'. -/
def replayHeldCard : Claim7 := { stood := { row := replayHeldRow, standIns := [], harness := (true, "cea1a0a0593223cf778da2b71f7e3f40cf0bf95e4f418c32bdb9574511e3497b"), looks := true }, kinds := [], alts := [], laidByText := true, laidKinds := [.wider], laidTests := true, laidLooks := .later }
def ReplayHeldCardSaid : Prop := Claim7.holds Tryz.pinned (.plain (OpenSpec.ofChange replayHeldSpec)) replayHeldCard

/-- THE TIED CARD OF 'forerunnerlaw19.ReplayOldest'. -/
def replayOldestCard : Claim7 := { stood := { row := replayOldestRow, standIns := [], harness := (true, "cea1a0a0593223cf778da2b71f7e3f40cf0bf95e4f418c32bdb9574511e3497b"), looks := true }, kinds := [], alts := [], laidByText := true, laidKinds := [.wider], laidTests := true, laidLooks := .later }
def ReplayOldestCardSaid : Prop := Claim7.holds Tryz.pinned (.plain (OpenSpec.ofChange replayOldestSpec)) replayOldestCard

/-- THE TIED CARD OF 'forerunnerlaw19.ReplayMisses'. -/
def replayMissesCard : Claim7 := { stood := { row := replayMissesRow, standIns := [], harness := (true, "cea1a0a0593223cf778da2b71f7e3f40cf0bf95e4f418c32bdb9574511e3497b"), looks := true }, kinds := [], alts := [], laidByText := true, laidKinds := [.wider], laidTests := true, laidLooks := .later }
def ReplayMissesCardSaid : Prop := Claim7.holds Tryz.pinned (.plain (OpenSpec.ofChange replayMissesSpec)) replayMissesCard

/-- THE SECOND FORM's CARD OF 'forerunnerlaw19.ReplayPlays'. -/
def replayPlaysUptoCard : Claim7 := { stood := { row := replayPlaysUptoRow, standIns := [], harness := (true, "cea1a0a0593223cf778da2b71f7e3f40cf0bf95e4f418c32bdb9574511e3497b"), looks := true }, kinds := [], alts := [], laidByText := true, laidKinds := [.wider], laidTests := true, laidLooks := .later }
def ReplayPlaysUptoCardSaid : Prop := Claim7.holds Tryz.pinned (.plain (OpenSpec.upto replayPlaysSpec)) replayPlaysUptoCard

/-- THE SECOND FORM's CARD OF 'forerunnerlaw19.ReplayRuns'. -/
def replayRunsUptoCard : Claim7 := { stood := { row := replayRunsUptoRow, standIns := [], harness := (true, "cea1a0a0593223cf778da2b71f7e3f40cf0bf95e4f418c32bdb9574511e3497b"), looks := true }, kinds := [], alts := [], laidByText := true, laidKinds := [.wider], laidTests := true, laidLooks := .later }
def ReplayRunsUptoCardSaid : Prop := Claim7.holds Tryz.pinned (.plain (OpenSpec.upto replayRunsSpec)) replayRunsUptoCard

/-- THE SECOND FORM's CARD OF 'forerunnerlaw19.ReplayHeld'. -/
def replayHeldUptoCard : Claim7 := { stood := { row := replayHeldUptoRow, standIns := [], harness := (true, "cea1a0a0593223cf778da2b71f7e3f40cf0bf95e4f418c32bdb9574511e3497b"), looks := true }, kinds := [], alts := [], laidByText := true, laidKinds := [.wider], laidTests := true, laidLooks := .later }
def ReplayHeldUptoCardSaid : Prop := Claim7.holds Tryz.pinned (.plain (OpenSpec.upto replayHeldSpec)) replayHeldUptoCard

/-- THE SECOND FORM's CARD OF 'forerunnerlaw19.ReplayOldest'. -/
def replayOldestUptoCard : Claim7 := { stood := { row := replayOldestUptoRow, standIns := [], harness := (true, "cea1a0a0593223cf778da2b71f7e3f40cf0bf95e4f418c32bdb9574511e3497b"), looks := true }, kinds := [], alts := [], laidByText := true, laidKinds := [.wider], laidTests := true, laidLooks := .later }
def ReplayOldestUptoCardSaid : Prop := Claim7.holds Tryz.pinned (.plain (OpenSpec.upto replayOldestSpec)) replayOldestUptoCard

/-- THE SECOND FORM's CARD OF 'forerunnerlaw19.ReplayMisses'. -/
def replayMissesUptoCard : Claim7 := { stood := { row := replayMissesUptoRow, standIns := [], harness := (true, "cea1a0a0593223cf778da2b71f7e3f40cf0bf95e4f418c32bdb9574511e3497b"), looks := true }, kinds := [], alts := [], laidByText := true, laidKinds := [.wider], laidTests := true, laidLooks := .later }
def ReplayMissesUptoCardSaid : Prop := Claim7.holds Tryz.pinned (.plain (OpenSpec.upto replayMissesSpec)) replayMissesUptoCard
end Rows
end Go.Proofs.YtlfnncahhbbmpaaGreatDoor
