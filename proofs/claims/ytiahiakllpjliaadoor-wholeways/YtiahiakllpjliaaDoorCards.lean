/-
  DERIVED. GIVEN WITH THE SEED: THE CARDS: each row of YtiahiakllpjliaaDoorRows.lean that lists a variable, with what it lists TIED to the program's text (the seventh form; the later family's looks); each row that meets fmt, with fmt's text TOLD by the authors' own Lean function (tested against real Go, not proved from fmt's source: count such statements apart). THE CARD IS WHAT COUNTS. Prove the row's statement (the work); the ties are given (YtiahiakllpjliaaDoorTie.lean); close each card by the builder's one call (the guide's Derived/Test/ToyasCard.lean, 'card_holds'). Laid BY PROGRAM, IN A SANDBOX (cutbox-door.mjs). By AI agents, Wed Nov 11 2026. No macro, syntax, notation, axiom, sorry.
-/
import Derived.Test.YtiahiakllpjliaaDoorRows
import GoSem.ClaimSeven
namespace Go.Proofs.YtiahiakllpjliaaDoor
namespace Rows

/-- THE TIED CARD OF 'bargatelaw13.RelayDress'. -/
def relayDressCard : Claim7 := { stood := { row := relayDressRow, standIns := [], harness := (true, "39b14314a60dc5df5746c96cedb7e25674514236ea4b20ea44b8a7a8c592edd3"), looks := false }, kinds := [], alts := [], laidByText := true, laidKinds := [.data], laidTests := true, laidLooks := .later }
def RelayDressCardSaid : Prop := Claim7.holds Tryd.pinned (.plain (OpenSpec.ofChange relayDressSpec)) relayDressCard

/-- THE TIED CARD OF 'bargatetop.WholeWays'. -/
def wholeWaysCard : Claim7 := { stood := { row := wholeWaysRow, standIns := [], harness := (true, "39b14314a60dc5df5746c96cedb7e25674514236ea4b20ea44b8a7a8c592edd3"), looks := false }, kinds := [], alts := [], laidByText := true, laidKinds := [.data], laidTests := true, laidLooks := .later }
def WholeWaysCardSaid : Prop := Claim7.holds Tryd.pinned (.plain (OpenSpec.ofChange wholeWaysSpec)) wholeWaysCard

/-- THE SECOND FORM's CARD OF 'bargatelaw13.RelayDress'. -/
def relayDressUptoCard : Claim7 := { stood := { row := relayDressUptoRow, standIns := [], harness := (true, "39b14314a60dc5df5746c96cedb7e25674514236ea4b20ea44b8a7a8c592edd3"), looks := false }, kinds := [], alts := [], laidByText := true, laidKinds := [.data], laidTests := true, laidLooks := .later }
def RelayDressUptoCardSaid : Prop := Claim7.holds Tryd.pinned (.plain (OpenSpec.upto relayDressSpec)) relayDressUptoCard

/-- THE SECOND FORM's CARD OF 'bargatetop.WholeWays'. -/
def wholeWaysUptoCard : Claim7 := { stood := { row := wholeWaysUptoRow, standIns := [], harness := (true, "39b14314a60dc5df5746c96cedb7e25674514236ea4b20ea44b8a7a8c592edd3"), looks := false }, kinds := [], alts := [], laidByText := true, laidKinds := [.data], laidTests := true, laidLooks := .later }
def WholeWaysUptoCardSaid : Prop := Claim7.holds Tryd.pinned (.plain (OpenSpec.upto wholeWaysSpec)) wholeWaysUptoCard
end Rows
end Go.Proofs.YtiahiakllpjliaaDoor
