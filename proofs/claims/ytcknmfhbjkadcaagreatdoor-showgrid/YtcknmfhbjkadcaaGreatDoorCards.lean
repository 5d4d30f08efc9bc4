/-
  DERIVED. GIVEN WITH THE SEED: THE CARDS: each row of YtcknmfhbjkadcaaGreatDoorRows.lean that lists a variable, with what it lists TIED to the program's text (the seventh form; the later family's looks); each row that meets fmt, with fmt's text TOLD by the authors' own Lean function (tested against real Go, not proved from fmt's source: count such statements apart). THE CARD IS WHAT COUNTS. Prove the row's statement (the work); the ties are given (YtcknmfhbjkadcaaGreatDoorTie.lean); close each card by the builder's one call (the guide's Derived/Test/ToyasCard.lean, 'card_holds'). Laid BY PROGRAM, IN A SANDBOX (cutbox-door.mjs). By AI agents, Wed Nov 11 2026. No macro, syntax, notation, axiom, sorry.
-/
import Derived.Test.YtcknmfhbjkadcaaGreatDoorRows
import GoSem.ClaimSeven
namespace Go.Proofs.YtcknmfhbjkadcaaGreatDoor
namespace Rows

/-- THE TIED CARD OF 'abacuslaw10.ShowGrid'. -/
def showGridCard : Claim7 := { stood := { row := showGridRow, standIns := [], harness := (true, "ff6c38eee15eea0c937516798fbba86d773a284c840f599ae385d11d25811d86"), looks := true }, kinds := [], alts := [], laidByText := true, laidKinds := [.data, .data, .data, .data, .sentinel, .sentinel, .listed, .data, .pinned], laidTests := true, laidLooks := .later }
def ShowGridCardSaid : Prop := Claim7.holds Tryz.pinned (.plain (OpenSpec.ofChange showGridSpec)) showGridCard

/-- THE SECOND FORM's CARD OF 'abacuslaw10.ShowGrid'. -/
def showGridUptoCard : Claim7 := { stood := { row := showGridUptoRow, standIns := [], harness := (true, "ff6c38eee15eea0c937516798fbba86d773a284c840f599ae385d11d25811d86"), looks := true }, kinds := [], alts := [], laidByText := true, laidKinds := [.data, .data, .data, .data, .sentinel, .sentinel, .listed, .data, .pinned], laidTests := true, laidLooks := .later }
def ShowGridUptoCardSaid : Prop := Claim7.holds Tryz.pinned (.plain (OpenSpec.upto showGridSpec)) showGridUptoCard
end Rows
end Go.Proofs.YtcknmfhbjkadcaaGreatDoor
