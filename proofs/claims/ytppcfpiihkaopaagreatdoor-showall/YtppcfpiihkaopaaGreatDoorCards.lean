/-
  DERIVED. GIVEN WITH THE SEED: THE CARDS: each row of YtppcfpiihkaopaaGreatDoorRows.lean that lists a variable, with what it lists TIED to the program's text (the seventh form; the later family's looks); each row that meets fmt, with fmt's text TOLD by the authors' own Lean function (tested against real Go, not proved from fmt's source: count such statements apart). THE CARD IS WHAT COUNTS. Prove the row's statement (the work); the ties are given (YtppcfpiihkaopaaGreatDoorTie.lean); close each card by the builder's one call (the guide's Derived/Test/ToyasCard.lean, 'card_holds'). Laid BY PROGRAM, IN A SANDBOX (cutbox-door.mjs). By AI agents, Wed Nov 11 2026. No macro, syntax, notation, axiom, sorry.
-/
import Derived.Test.YtppcfpiihkaopaaGreatDoorRows
import GoSem.ClaimSeven
namespace Go.Proofs.YtppcfpiihkaopaaGreatDoor
namespace Rows

/-- THE TIED CARD OF 'abacuslaw10.ShowAll'. -/
def showAllCard : Claim7 := { stood := { row := showAllRow, standIns := [], harness := (true, "2d713ff51fb2a346b940780321658a53a8f6dbe85e62320d78c28d864e95bf5a"), looks := true }, kinds := [], alts := [], laidByText := true, laidKinds := [.data, .data, .data, .sentinel, .sentinel], laidTests := true, laidLooks := .later }
def ShowAllCardSaid : Prop := Claim7.holds Tryz.pinned (.plain (OpenSpec.ofChange showAllSpec)) showAllCard

/-- THE SECOND FORM's CARD OF 'abacuslaw10.ShowAll'. -/
def showAllUptoCard : Claim7 := { stood := { row := showAllUptoRow, standIns := [], harness := (true, "2d713ff51fb2a346b940780321658a53a8f6dbe85e62320d78c28d864e95bf5a"), looks := true }, kinds := [], alts := [], laidByText := true, laidKinds := [.data, .data, .data, .sentinel, .sentinel], laidTests := true, laidLooks := .later }
def ShowAllUptoCardSaid : Prop := Claim7.holds Tryz.pinned (.plain (OpenSpec.upto showAllSpec)) showAllUptoCard
end Rows
end Go.Proofs.YtppcfpiihkaopaaGreatDoor
