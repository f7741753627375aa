/-
  DERIVED. GIVEN WITH THE SEED: THE CARDS: each row of YtiimppbfigikfaaDoorRows.lean that lists a variable, with what it lists TIED to the program's text (the seventh form; the later family's looks); each row that meets fmt, with fmt's text TOLD by the authors' own Lean function (tested against real Go, not proved from fmt's source: count such statements apart). THE CARD IS WHAT COUNTS. Prove the row's statement (the work); the ties are given (YtiimppbfigikfaaDoorTie.lean); close each card by the builder's one call (the guide's Derived/Test/ToyasCard.lean, 'card_holds'). Laid BY PROGRAM, IN A SANDBOX (cutbox-door.mjs). By AI agents, Wed Nov 11 2026. No macro, syntax, notation, axiom, sorry.
-/
import Derived.Test.YtiimppbfigikfaaDoorRows
import GoSem.ClaimSeven
namespace Go.Proofs.YtiimppbfigikfaaDoor
namespace Rows

/-- THE TIED CARD OF 'bargatelaw03.MacParses'. -/
def macParsesCard : Claim7 := { stood := { row := macParsesRow, standIns := [], harness := (true, "8e5c15e13eb00d5dedd6ec4532feb2da7789928ca502cbc322378607786bd3da"), looks := false }, kinds := [], alts := [], laidByText := true, laidKinds := [.data], laidTests := true, laidLooks := .later }
def MacParsesCardSaid : Prop := Claim7.holds Tryd.pinned (.plain (OpenSpec.ofChange macParsesSpec)) macParsesCard

/-- THE TIED CARD OF 'bargatelaw03.MacSealed'. -/
def macSealedCard : Claim7 := { stood := { row := macSealedRow, standIns := [], harness := (true, "8e5c15e13eb00d5dedd6ec4532feb2da7789928ca502cbc322378607786bd3da"), looks := false }, kinds := [], alts := [], laidByText := true, laidKinds := [.data], laidTests := true, laidLooks := .later }
def MacSealedCardSaid : Prop := Claim7.holds Tryd.pinned (.plain (OpenSpec.ofChange macSealedSpec)) macSealedCard

/-- THE TIED CARD OF 'bargatelaw03.MacBuilds'. -/
def macBuildsCard : Claim7 := { stood := { row := macBuildsRow, standIns := [], harness := (true, "8e5c15e13eb00d5dedd6ec4532feb2da7789928ca502cbc322378607786bd3da"), looks := false }, kinds := [], alts := [], laidByText := true, laidKinds := [.data], laidTests := true, laidLooks := .later }
def MacBuildsCardSaid : Prop := Claim7.holds Tryd.pinned (.plain (OpenSpec.ofChange macBuildsSpec)) macBuildsCard

/-- THE TIED CARD OF 'bargatelaw03.MacChecks'. -/
def macChecksCard : Claim7 := { stood := { row := macChecksRow, standIns := [], harness := (true, "8e5c15e13eb00d5dedd6ec4532feb2da7789928ca502cbc322378607786bd3da"), looks := false }, kinds := [], alts := [], laidByText := true, laidKinds := [.data], laidTests := true, laidLooks := .later }
def MacChecksCardSaid : Prop := Claim7.holds Tryd.pinned (.plain (OpenSpec.ofChange macChecksSpec)) macChecksCard

/-- THE TIED CARD OF 'bargatelaw03.MacTags'. -/
def macTagsCard : Claim7 := { stood := { row := macTagsRow, standIns := [], harness := (true, "8e5c15e13eb00d5dedd6ec4532feb2da7789928ca502cbc322378607786bd3da"), looks := false }, kinds := [], alts := [], laidByText := true, laidKinds := [.data], laidTests := true, laidLooks := .later }
def MacTagsCardSaid : Prop := Claim7.holds Tryd.pinned (.plain (OpenSpec.ofChange macTagsSpec)) macTagsCard

/-- THE TIED CARD OF 'bargatelaw03.MacTexts'. -/
def macTextsCard : Claim7 := { stood := { row := macTextsRow, standIns := [], harness := (true, "8e5c15e13eb00d5dedd6ec4532feb2da7789928ca502cbc322378607786bd3da"), looks := false }, kinds := [], alts := [], laidByText := true, laidKinds := [.data], laidTests := true, laidLooks := .later }
def MacTextsCardSaid : Prop := Claim7.holds Tryd.pinned (.plain (OpenSpec.ofChange macTextsSpec)) macTextsCard

/-- THE TIED CARD OF 'bargatelaw03.MacPads'. -/
def macPadsCard : Claim7 := { stood := { row := macPadsRow, standIns := [], harness := (true, "8e5c15e13eb00d5dedd6ec4532feb2da7789928ca502cbc322378607786bd3da"), looks := false }, kinds := [], alts := [], laidByText := true, laidKinds := [.data], laidTests := true, laidLooks := .later }
def MacPadsCardSaid : Prop := Claim7.holds Tryd.pinned (.plain (OpenSpec.ofChange macPadsSpec)) macPadsCard

/-- THE TIED CARD OF 'bargatelaw03.MacLengths'. -/
def macLengthsCard : Claim7 := { stood := { row := macLengthsRow, standIns := [], harness := (true, "8e5c15e13eb00d5dedd6ec4532feb2da7789928ca502cbc322378607786bd3da"), looks := false }, kinds := [], alts := [], laidByText := true, laidKinds := [.data], laidTests := true, laidLooks := .later }
def MacLengthsCardSaid : Prop := Claim7.holds Tryd.pinned (.plain (OpenSpec.ofChange macLengthsSpec)) macLengthsCard

/-- THE TIED CARD OF 'bargatelaw04.BpduParses'. -/
def bpduParsesCard : Claim7 := { stood := { row := bpduParsesRow, standIns := [], harness := (true, "8e5c15e13eb00d5dedd6ec4532feb2da7789928ca502cbc322378607786bd3da"), looks := false }, kinds := [], alts := [], laidByText := true, laidKinds := [.data], laidTests := true, laidLooks := .later }
def BpduParsesCardSaid : Prop := Claim7.holds Tryd.pinned (.plain (OpenSpec.ofChange bpduParsesSpec)) bpduParsesCard

/-- THE TIED CARD OF 'bargatelaw04.BpduBuilds'. -/
def bpduBuildsCard : Claim7 := { stood := { row := bpduBuildsRow, standIns := [], harness := (true, "8e5c15e13eb00d5dedd6ec4532feb2da7789928ca502cbc322378607786bd3da"), looks := false }, kinds := [], alts := [], laidByText := true, laidKinds := [.data], laidTests := true, laidLooks := .later }
def BpduBuildsCardSaid : Prop := Claim7.holds Tryd.pinned (.plain (OpenSpec.ofChange bpduBuildsSpec)) bpduBuildsCard

/-- THE TIED CARD OF 'bargatelaw04.BpduChecks'. -/
def bpduChecksCard : Claim7 := { stood := { row := bpduChecksRow, standIns := [], harness := (true, "8e5c15e13eb00d5dedd6ec4532feb2da7789928ca502cbc322378607786bd3da"), looks := false }, kinds := [], alts := [], laidByText := true, laidKinds := [.data], laidTests := true, laidLooks := .later }
def BpduChecksCardSaid : Prop := Claim7.holds Tryd.pinned (.plain (OpenSpec.ofChange bpduChecksSpec)) bpduChecksCard

/-- THE TIED CARD OF 'bargatelaw04.BpduFrames'. -/
def bpduFramesCard : Claim7 := { stood := { row := bpduFramesRow, standIns := [], harness := (true, "8e5c15e13eb00d5dedd6ec4532feb2da7789928ca502cbc322378607786bd3da"), looks := false }, kinds := [], alts := [], laidByText := true, laidKinds := [.data], laidTests := true, laidLooks := .later }
def BpduFramesCardSaid : Prop := Claim7.holds Tryd.pinned (.plain (OpenSpec.ofChange bpduFramesSpec)) bpduFramesCard

/-- THE TIED CARD OF 'bargatelaw04.BpduReserved'. -/
def bpduReservedCard : Claim7 := { stood := { row := bpduReservedRow, standIns := [], harness := (true, "8e5c15e13eb00d5dedd6ec4532feb2da7789928ca502cbc322378607786bd3da"), looks := false }, kinds := [], alts := [], laidByText := true, laidKinds := [.data], laidTests := true, laidLooks := .later }
def BpduReservedCardSaid : Prop := Claim7.holds Tryd.pinned (.plain (OpenSpec.ofChange bpduReservedSpec)) bpduReservedCard

/-- THE TIED CARD OF 'bargatelaw04.BpduFlags'. -/
def bpduFlagsCard : Claim7 := { stood := { row := bpduFlagsRow, standIns := [], harness := (true, "8e5c15e13eb00d5dedd6ec4532feb2da7789928ca502cbc322378607786bd3da"), looks := false }, kinds := [], alts := [], laidByText := true, laidKinds := [.data], laidTests := true, laidLooks := .later }
def BpduFlagsCardSaid : Prop := Claim7.holds Tryd.pinned (.plain (OpenSpec.ofChange bpduFlagsSpec)) bpduFlagsCard

/-- THE TIED CARD OF 'bargatetop.WholeMessages'. -/
def wholeMessagesCard : Claim7 := { stood := { row := wholeMessagesRow, standIns := [], harness := (true, "8e5c15e13eb00d5dedd6ec4532feb2da7789928ca502cbc322378607786bd3da"), looks := false }, kinds := [], alts := [], laidByText := true, laidKinds := [.data], laidTests := true, laidLooks := .later }
def WholeMessagesCardSaid : Prop := Claim7.holds Tryd.pinned (.plain (OpenSpec.ofChange wholeMessagesSpec)) wholeMessagesCard

/-- THE SECOND FORM's CARD OF 'bargatelaw03.MacParses'. -/
def macParsesUptoCard : Claim7 := { stood := { row := macParsesUptoRow, standIns := [], harness := (true, "8e5c15e13eb00d5dedd6ec4532feb2da7789928ca502cbc322378607786bd3da"), looks := false }, kinds := [], alts := [], laidByText := true, laidKinds := [.data], laidTests := true, laidLooks := .later }
def MacParsesUptoCardSaid : Prop := Claim7.holds Tryd.pinned (.plain (OpenSpec.upto macParsesSpec)) macParsesUptoCard

/-- THE SECOND FORM's CARD OF 'bargatelaw03.MacSealed'. -/
def macSealedUptoCard : Claim7 := { stood := { row := macSealedUptoRow, standIns := [], harness := (true, "8e5c15e13eb00d5dedd6ec4532feb2da7789928ca502cbc322378607786bd3da"), looks := false }, kinds := [], alts := [], laidByText := true, laidKinds := [.data], laidTests := true, laidLooks := .later }
def MacSealedUptoCardSaid : Prop := Claim7.holds Tryd.pinned (.plain (OpenSpec.upto macSealedSpec)) macSealedUptoCard

/-- THE SECOND FORM's CARD OF 'bargatelaw03.MacBuilds'. -/
def macBuildsUptoCard : Claim7 := { stood := { row := macBuildsUptoRow, standIns := [], harness := (true, "8e5c15e13eb00d5dedd6ec4532feb2da7789928ca502cbc322378607786bd3da"), looks := false }, kinds := [], alts := [], laidByText := true, laidKinds := [.data], laidTests := true, laidLooks := .later }
def MacBuildsUptoCardSaid : Prop := Claim7.holds Tryd.pinned (.plain (OpenSpec.upto macBuildsSpec)) macBuildsUptoCard

/-- THE SECOND FORM's CARD OF 'bargatelaw03.MacChecks'. -/
def macChecksUptoCard : Claim7 := { stood := { row := macChecksUptoRow, standIns := [], harness := (true, "8e5c15e13eb00d5dedd6ec4532feb2da7789928ca502cbc322378607786bd3da"), looks := false }, kinds := [], alts := [], laidByText := true, laidKinds := [.data], laidTests := true, laidLooks := .later }
def MacChecksUptoCardSaid : Prop := Claim7.holds Tryd.pinned (.plain (OpenSpec.upto macChecksSpec)) macChecksUptoCard

/-- THE SECOND FORM's CARD OF 'bargatelaw03.MacTags'. -/
def macTagsUptoCard : Claim7 := { stood := { row := macTagsUptoRow, standIns := [], harness := (true, "8e5c15e13eb00d5dedd6ec4532feb2da7789928ca502cbc322378607786bd3da"), looks := false }, kinds := [], alts := [], laidByText := true, laidKinds := [.data], laidTests := true, laidLooks := .later }
def MacTagsUptoCardSaid : Prop := Claim7.holds Tryd.pinned (.plain (OpenSpec.upto macTagsSpec)) macTagsUptoCard

/-- THE SECOND FORM's CARD OF 'bargatelaw03.MacTexts'. -/
def macTextsUptoCard : Claim7 := { stood := { row := macTextsUptoRow, standIns := [], harness := (true, "8e5c15e13eb00d5dedd6ec4532feb2da7789928ca502cbc322378607786bd3da"), looks := false }, kinds := [], alts := [], laidByText := true, laidKinds := [.data], laidTests := true, laidLooks := .later }
def MacTextsUptoCardSaid : Prop := Claim7.holds Tryd.pinned (.plain (OpenSpec.upto macTextsSpec)) macTextsUptoCard

/-- THE SECOND FORM's CARD OF 'bargatelaw03.MacPads'. -/
def macPadsUptoCard : Claim7 := { stood := { row := macPadsUptoRow, standIns := [], harness := (true, "8e5c15e13eb00d5dedd6ec4532feb2da7789928ca502cbc322378607786bd3da"), looks := false }, kinds := [], alts := [], laidByText := true, laidKinds := [.data], laidTests := true, laidLooks := .later }
def MacPadsUptoCardSaid : Prop := Claim7.holds Tryd.pinned (.plain (OpenSpec.upto macPadsSpec)) macPadsUptoCard

/-- THE SECOND FORM's CARD OF 'bargatelaw03.MacLengths'. -/
def macLengthsUptoCard : Claim7 := { stood := { row := macLengthsUptoRow, standIns := [], harness := (true, "8e5c15e13eb00d5dedd6ec4532feb2da7789928ca502cbc322378607786bd3da"), looks := false }, kinds := [], alts := [], laidByText := true, laidKinds := [.data], laidTests := true, laidLooks := .later }
def MacLengthsUptoCardSaid : Prop := Claim7.holds Tryd.pinned (.plain (OpenSpec.upto macLengthsSpec)) macLengthsUptoCard

/-- THE SECOND FORM's CARD OF 'bargatelaw04.BpduParses'. -/
def bpduParsesUptoCard : Claim7 := { stood := { row := bpduParsesUptoRow, standIns := [], harness := (true, "8e5c15e13eb00d5dedd6ec4532feb2da7789928ca502cbc322378607786bd3da"), looks := false }, kinds := [], alts := [], laidByText := true, laidKinds := [.data], laidTests := true, laidLooks := .later }
def BpduParsesUptoCardSaid : Prop := Claim7.holds Tryd.pinned (.plain (OpenSpec.upto bpduParsesSpec)) bpduParsesUptoCard

/-- THE SECOND FORM's CARD OF 'bargatelaw04.BpduBuilds'. -/
def bpduBuildsUptoCard : Claim7 := { stood := { row := bpduBuildsUptoRow, standIns := [], harness := (true, "8e5c15e13eb00d5dedd6ec4532feb2da7789928ca502cbc322378607786bd3da"), looks := false }, kinds := [], alts := [], laidByText := true, laidKinds := [.data], laidTests := true, laidLooks := .later }
def BpduBuildsUptoCardSaid : Prop := Claim7.holds Tryd.pinned (.plain (OpenSpec.upto bpduBuildsSpec)) bpduBuildsUptoCard

/-- THE SECOND FORM's CARD OF 'bargatelaw04.BpduChecks'. -/
def bpduChecksUptoCard : Claim7 := { stood := { row := bpduChecksUptoRow, standIns := [], harness := (true, "8e5c15e13eb00d5dedd6ec4532feb2da7789928ca502cbc322378607786bd3da"), looks := false }, kinds := [], alts := [], laidByText := true, laidKinds := [.data], laidTests := true, laidLooks := .later }
def BpduChecksUptoCardSaid : Prop := Claim7.holds Tryd.pinned (.plain (OpenSpec.upto bpduChecksSpec)) bpduChecksUptoCard

/-- THE SECOND FORM's CARD OF 'bargatelaw04.BpduFrames'. -/
def bpduFramesUptoCard : Claim7 := { stood := { row := bpduFramesUptoRow, standIns := [], harness := (true, "8e5c15e13eb00d5dedd6ec4532feb2da7789928ca502cbc322378607786bd3da"), looks := false }, kinds := [], alts := [], laidByText := true, laidKinds := [.data], laidTests := true, laidLooks := .later }
def BpduFramesUptoCardSaid : Prop := Claim7.holds Tryd.pinned (.plain (OpenSpec.upto bpduFramesSpec)) bpduFramesUptoCard

/-- THE SECOND FORM's CARD OF 'bargatelaw04.BpduReserved'. -/
def bpduReservedUptoCard : Claim7 := { stood := { row := bpduReservedUptoRow, standIns := [], harness := (true, "8e5c15e13eb00d5dedd6ec4532feb2da7789928ca502cbc322378607786bd3da"), looks := false }, kinds := [], alts := [], laidByText := true, laidKinds := [.data], laidTests := true, laidLooks := .later }
def BpduReservedUptoCardSaid : Prop := Claim7.holds Tryd.pinned (.plain (OpenSpec.upto bpduReservedSpec)) bpduReservedUptoCard

/-- THE SECOND FORM's CARD OF 'bargatelaw04.BpduFlags'. -/
def bpduFlagsUptoCard : Claim7 := { stood := { row := bpduFlagsUptoRow, standIns := [], harness := (true, "8e5c15e13eb00d5dedd6ec4532feb2da7789928ca502cbc322378607786bd3da"), looks := false }, kinds := [], alts := [], laidByText := true, laidKinds := [.data], laidTests := true, laidLooks := .later }
def BpduFlagsUptoCardSaid : Prop := Claim7.holds Tryd.pinned (.plain (OpenSpec.upto bpduFlagsSpec)) bpduFlagsUptoCard

/-- THE SECOND FORM's CARD OF 'bargatetop.WholeMessages'. -/
def wholeMessagesUptoCard : Claim7 := { stood := { row := wholeMessagesUptoRow, standIns := [], harness := (true, "8e5c15e13eb00d5dedd6ec4532feb2da7789928ca502cbc322378607786bd3da"), looks := false }, kinds := [], alts := [], laidByText := true, laidKinds := [.data], laidTests := true, laidLooks := .later }
def WholeMessagesUptoCardSaid : Prop := Claim7.holds Tryd.pinned (.plain (OpenSpec.upto wholeMessagesSpec)) wholeMessagesUptoCard
end Rows
end Go.Proofs.YtiimppbfigikfaaDoor
