/-
  DERIVED. GIVEN WITH THE SEED: THE CARDS: each row of YtmakaadmjgakaaaDoorRows.lean that lists a variable, with what it lists TIED to the program's text (the seventh form; the later family's looks); each row that meets fmt, with fmt's text TOLD by the authors' own Lean function (tested against real Go, not proved from fmt's source: count such statements apart). THE CARD IS WHAT COUNTS. Prove the row's statement (the work); the ties are given (YtmakaadmjgakaaaDoorTie.lean); close each card by the builder's one call (the guide's Derived/Test/ToyasCard.lean, 'card_holds'). Laid BY PROGRAM, IN A SANDBOX (cutbox-door.mjs). By AI agents, Wed Nov 11 2026. No macro, syntax, notation, axiom, sorry.
-/
import Derived.Test.YtmakaadmjgakaaaDoorRows
import GoSem.ClaimSeven
namespace Go.Proofs.YtmakaadmjgakaaaDoor
namespace Rows

/-- THE TIED CARD OF 'bargatelaw03.MacTags'. -/
def macTagsCard : Claim7 := { stood := { row := macTagsRow, standIns := [], harness := (true, "96d5e574c0ba40bb30a57b6b5a12c084d5d2f9fb33f807da259185cd8e6379f6"), looks := false }, kinds := [], alts := [], laidByText := true, laidKinds := [.data], laidTests := true, laidLooks := .later }
def MacTagsCardSaid : Prop := Claim7.holds Tryd.pinned (.plain (OpenSpec.ofChange macTagsSpec)) macTagsCard

/-- THE TIED CARD OF 'bargatelaw04.BpduParses'. -/
def bpduParsesCard : Claim7 := { stood := { row := bpduParsesRow, standIns := [], harness := (true, "96d5e574c0ba40bb30a57b6b5a12c084d5d2f9fb33f807da259185cd8e6379f6"), looks := false }, kinds := [], alts := [], laidByText := true, laidKinds := [.data], laidTests := true, laidLooks := .later }
def BpduParsesCardSaid : Prop := Claim7.holds Tryd.pinned (.plain (OpenSpec.ofChange bpduParsesSpec)) bpduParsesCard

/-- THE TIED CARD OF 'bargatelaw04.BpduFlags'. -/
def bpduFlagsCard : Claim7 := { stood := { row := bpduFlagsRow, standIns := [], harness := (true, "96d5e574c0ba40bb30a57b6b5a12c084d5d2f9fb33f807da259185cd8e6379f6"), looks := false }, kinds := [], alts := [], laidByText := true, laidKinds := [.data], laidTests := true, laidLooks := .later }
def BpduFlagsCardSaid : Prop := Claim7.holds Tryd.pinned (.plain (OpenSpec.ofChange bpduFlagsSpec)) bpduFlagsCard

/-- THE TIED CARD OF 'bargatetop.WholeTimes'. -/
def wholeTimesCard : Claim7 := { stood := { row := wholeTimesRow, standIns := [], harness := (true, "96d5e574c0ba40bb30a57b6b5a12c084d5d2f9fb33f807da259185cd8e6379f6"), looks := false }, kinds := [], alts := [], laidByText := true, laidKinds := [.data], laidTests := true, laidLooks := .later }
def WholeTimesCardSaid : Prop := Claim7.holds Tryd.pinned (.plain (OpenSpec.ofChange wholeTimesSpec)) wholeTimesCard

/-- THE SECOND FORM's CARD OF 'bargatelaw03.MacTags'. -/
def macTagsUptoCard : Claim7 := { stood := { row := macTagsUptoRow, standIns := [], harness := (true, "96d5e574c0ba40bb30a57b6b5a12c084d5d2f9fb33f807da259185cd8e6379f6"), looks := false }, kinds := [], alts := [], laidByText := true, laidKinds := [.data], laidTests := true, laidLooks := .later }
def MacTagsUptoCardSaid : Prop := Claim7.holds Tryd.pinned (.plain (OpenSpec.upto macTagsSpec)) macTagsUptoCard

/-- THE SECOND FORM's CARD OF 'bargatelaw04.BpduParses'. -/
def bpduParsesUptoCard : Claim7 := { stood := { row := bpduParsesUptoRow, standIns := [], harness := (true, "96d5e574c0ba40bb30a57b6b5a12c084d5d2f9fb33f807da259185cd8e6379f6"), looks := false }, kinds := [], alts := [], laidByText := true, laidKinds := [.data], laidTests := true, laidLooks := .later }
def BpduParsesUptoCardSaid : Prop := Claim7.holds Tryd.pinned (.plain (OpenSpec.upto bpduParsesSpec)) bpduParsesUptoCard

/-- THE SECOND FORM's CARD OF 'bargatelaw04.BpduFlags'. -/
def bpduFlagsUptoCard : Claim7 := { stood := { row := bpduFlagsUptoRow, standIns := [], harness := (true, "96d5e574c0ba40bb30a57b6b5a12c084d5d2f9fb33f807da259185cd8e6379f6"), looks := false }, kinds := [], alts := [], laidByText := true, laidKinds := [.data], laidTests := true, laidLooks := .later }
def BpduFlagsUptoCardSaid : Prop := Claim7.holds Tryd.pinned (.plain (OpenSpec.upto bpduFlagsSpec)) bpduFlagsUptoCard

/-- THE SECOND FORM's CARD OF 'bargatetop.WholeTimes'. -/
def wholeTimesUptoCard : Claim7 := { stood := { row := wholeTimesUptoRow, standIns := [], harness := (true, "96d5e574c0ba40bb30a57b6b5a12c084d5d2f9fb33f807da259185cd8e6379f6"), looks := false }, kinds := [], alts := [], laidByText := true, laidKinds := [.data], laidTests := true, laidLooks := .later }
def WholeTimesUptoCardSaid : Prop := Claim7.holds Tryd.pinned (.plain (OpenSpec.upto wholeTimesSpec)) wholeTimesUptoCard
end Rows
end Go.Proofs.YtmakaadmjgakaaaDoor
