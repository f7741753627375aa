/-
  NARROWER THAN 'FOR EVERY INPUT', by the rows' own cells (each row's printed sentence says how): MacParses: laid · MacSealed: laid · MacBuilds: laid · MacChecks: laid · MacTags: laid · MacTexts: laid · MacPads: laid · MacLengths: laid · BpduParses: laid · BpduBuilds: laid · BpduChecks: laid · BpduFrames: laid · BpduReserved: laid · BpduFlags: laid · WholeMessages: laid.
  DERIVED. THE GIVEN ROWS OF THIS SEAT. 15 by the template 'for every input the law returns true; each argument reads behind the call as it read before'; 0 by the template 'total and deterministic' (their statements: YtiimppbfigikfaaDoorTotals.lean).
  GIVEN WITH THE SEED: the statements are not yours to turn. If you find one false, say at which input.
  Laid BY PROGRAM, IN A SANDBOX (cutbox-rows.mjs): the forced cells as the released guide's own fill.sh prints them over the translation ef2e673a61f6096d… (all of the seat's roots in one cut). By AI agents, Wed Nov 11 2026. No macro, syntax, notation, axiom, sorry.
-/
import Derived.Test.YtiimppbfigikfaaDoorChecked
import GoSem.Claim
import GoSem.ClaimJoined
import GoSem.ClaimMapViews
import Derived.JoinedTies
import Derived.KernelRfl
namespace Go.Proofs.YtiimppbfigikfaaDoor
/- THE CELL 'sum', in the pinned program and in every row, IS THE sha256 OF THE DUMP (.gsa) THAT YtiimppbfigikfaaDoorProg.lean LOADS. Nothing in Lean hashes anything: it is a label: what it is worth is what the hold of that sum in a sandbox is worth. -/
noncomputable def Tryd.pinned : Pinned := { name := "ytiimppbfigikfaadoor", sum := "ef2e673a61f6096d172168135d9e78079f810ba9d7c2a638942afec5a345d1c1", checked := Tryd.checked }
namespace Rows
def none {H : Type} : Left H := { results := [], args := [] }

/- WHAT THE LISTED PACKAGE-LEVEL VARIABLES READ AS WHEN THE CALL BEGINS. Each datum BY PROGRAM (the guide's laid-datum.mjs) off the statement by which the dump's own 'gosem.cut.vars' lays the variable. In a bare row this is a premise. The card (YtiimppbfigikfaaDoorCards.lean) ties it to the program's text. -/
def laid_bargate_crc_halfSums {H : Type} : DataW H := .agg [.lit (.int .u32 0), .lit (.int .u32 498536548), .lit (.int .u32 997073096), .lit (.int .u32 651767980), .lit (.int .u32 1994146192), .lit (.int .u32 1802195444), .lit (.int .u32 1303535960), .lit (.int .u32 1342533948), .lit (.int .u32 3988292384), .lit (.int .u32 4027552580), .lit (.int .u32 3604390888), .lit (.int .u32 3412177804), .lit (.int .u32 2607071920), .lit (.int .u32 2262029012), .lit (.int .u32 2685067896), .lit (.int .u32 3183342108)]

/-- 'bargatelaw03.MacParses': WHATEVER THE INPUT: true; the input reads as it did. -/
def macParsesSpec : ChangeSpec := { name := "macParses", fn := fun _ => fun
  | [d] => { results := [.lit (.bool true)], args := [d] }
  | _ => none }
def macParsesRow : OpenClaim := { program := "ytiimppbfigikfaadoor", sum := "ef2e673a61f6096d172168135d9e78079f810ba9d7c2a638942afec5a345d1c1", func := "bargate/bargatelaw03.MacParses", spec := "macParses", named := ["bargate/crc.halfSums"], apart := false, laid := [("bargate/crc.halfSums", laid_bargate_crc_halfSums)] }
def MacParsesSaid : Prop := macParsesRow.holds Tryd.pinned (OpenSpec.ofChange macParsesSpec)

/-- ITS FALSE NEIGHBOUR: 'it returns false'. Refute it at one input. -/
def macParsesWrong : ChangeSpec := { name := "macParses", fn := fun _ => fun
  | [d] => { results := [.lit (.bool false)], args := [d] }
  | _ => none }
def MacParsesWrongFalsely : Prop := macParsesRow.holds Tryd.pinned (OpenSpec.ofChange macParsesWrong)

/-- 'bargatelaw03.MacSealed': WHATEVER THE INPUT: true; the input reads as it did. -/
def macSealedSpec : ChangeSpec := { name := "macSealed", fn := fun _ => fun
  | [d1, d2] => { results := [.lit (.bool true)], args := [d1, d2] }
  | _ => none }
def macSealedRow : OpenClaim := { program := "ytiimppbfigikfaadoor", sum := "ef2e673a61f6096d172168135d9e78079f810ba9d7c2a638942afec5a345d1c1", func := "bargate/bargatelaw03.MacSealed", spec := "macSealed", named := ["bargate/crc.halfSums"], apart := false, laid := [("bargate/crc.halfSums", laid_bargate_crc_halfSums)] }
def MacSealedSaid : Prop := macSealedRow.holds Tryd.pinned (OpenSpec.ofChange macSealedSpec)

/-- ITS FALSE NEIGHBOUR: 'it returns false'. Refute it at one input. -/
def macSealedWrong : ChangeSpec := { name := "macSealed", fn := fun _ => fun
  | [d1, d2] => { results := [.lit (.bool false)], args := [d1, d2] }
  | _ => none }
def MacSealedWrongFalsely : Prop := macSealedRow.holds Tryd.pinned (OpenSpec.ofChange macSealedWrong)

/-- 'bargatelaw03.MacBuilds': WHATEVER THE INPUT: true; the input reads as it did. -/
def macBuildsSpec : ChangeSpec := { name := "macBuilds", fn := fun _ => fun
  | [d1, d2] => { results := [.lit (.bool true)], args := [d1, d2] }
  | _ => none }
def macBuildsRow : OpenClaim := { program := "ytiimppbfigikfaadoor", sum := "ef2e673a61f6096d172168135d9e78079f810ba9d7c2a638942afec5a345d1c1", func := "bargate/bargatelaw03.MacBuilds", spec := "macBuilds", named := ["bargate/crc.halfSums"], apart := false, laid := [("bargate/crc.halfSums", laid_bargate_crc_halfSums)] }
def MacBuildsSaid : Prop := macBuildsRow.holds Tryd.pinned (OpenSpec.ofChange macBuildsSpec)

/-- ITS FALSE NEIGHBOUR: 'it returns false'. Refute it at one input. -/
def macBuildsWrong : ChangeSpec := { name := "macBuilds", fn := fun _ => fun
  | [d1, d2] => { results := [.lit (.bool false)], args := [d1, d2] }
  | _ => none }
def MacBuildsWrongFalsely : Prop := macBuildsRow.holds Tryd.pinned (OpenSpec.ofChange macBuildsWrong)

/-- 'bargatelaw03.MacChecks': WHATEVER THE INPUT: true; the input reads as it did. -/
def macChecksSpec : ChangeSpec := { name := "macChecks", fn := fun _ => fun
  | [d1, d2] => { results := [.lit (.bool true)], args := [d1, d2] }
  | _ => none }
def macChecksRow : OpenClaim := { program := "ytiimppbfigikfaadoor", sum := "ef2e673a61f6096d172168135d9e78079f810ba9d7c2a638942afec5a345d1c1", func := "bargate/bargatelaw03.MacChecks", spec := "macChecks", named := ["bargate/crc.halfSums"], apart := false, laid := [("bargate/crc.halfSums", laid_bargate_crc_halfSums)] }
def MacChecksSaid : Prop := macChecksRow.holds Tryd.pinned (OpenSpec.ofChange macChecksSpec)

/-- ITS FALSE NEIGHBOUR: 'it returns false'. Refute it at one input. -/
def macChecksWrong : ChangeSpec := { name := "macChecks", fn := fun _ => fun
  | [d1, d2] => { results := [.lit (.bool false)], args := [d1, d2] }
  | _ => none }
def MacChecksWrongFalsely : Prop := macChecksRow.holds Tryd.pinned (OpenSpec.ofChange macChecksWrong)

/-- 'bargatelaw03.MacTags': WHATEVER THE INPUT: true; the input reads as it did. -/
def macTagsSpec : ChangeSpec := { name := "macTags", fn := fun _ => fun
  | [d1, d2, d3] => { results := [.lit (.bool true)], args := [d1, d2, d3] }
  | _ => none }
def macTagsRow : OpenClaim := { program := "ytiimppbfigikfaadoor", sum := "ef2e673a61f6096d172168135d9e78079f810ba9d7c2a638942afec5a345d1c1", func := "bargate/bargatelaw03.MacTags", spec := "macTags", named := ["bargate/crc.halfSums"], apart := false, laid := [("bargate/crc.halfSums", laid_bargate_crc_halfSums)] }
def MacTagsSaid : Prop := macTagsRow.holds Tryd.pinned (OpenSpec.ofChange macTagsSpec)

/-- ITS FALSE NEIGHBOUR: 'it returns false'. Refute it at one input. -/
def macTagsWrong : ChangeSpec := { name := "macTags", fn := fun _ => fun
  | [d1, d2, d3] => { results := [.lit (.bool false)], args := [d1, d2, d3] }
  | _ => none }
def MacTagsWrongFalsely : Prop := macTagsRow.holds Tryd.pinned (OpenSpec.ofChange macTagsWrong)

/-- 'bargatelaw03.MacTexts': WHATEVER THE INPUT: true; the input reads as it did. -/
def macTextsSpec : ChangeSpec := { name := "macTexts", fn := fun _ => fun
  | [d1, d2] => { results := [.lit (.bool true)], args := [d1, d2] }
  | _ => none }
def macTextsRow : OpenClaim := { program := "ytiimppbfigikfaadoor", sum := "ef2e673a61f6096d172168135d9e78079f810ba9d7c2a638942afec5a345d1c1", func := "bargate/bargatelaw03.MacTexts", spec := "macTexts", named := ["bargate/crc.halfSums"], apart := false, laid := [("bargate/crc.halfSums", laid_bargate_crc_halfSums)] }
def MacTextsSaid : Prop := macTextsRow.holds Tryd.pinned (OpenSpec.ofChange macTextsSpec)

/-- ITS FALSE NEIGHBOUR: 'it returns false'. Refute it at one input. -/
def macTextsWrong : ChangeSpec := { name := "macTexts", fn := fun _ => fun
  | [d1, d2] => { results := [.lit (.bool false)], args := [d1, d2] }
  | _ => none }
def MacTextsWrongFalsely : Prop := macTextsRow.holds Tryd.pinned (OpenSpec.ofChange macTextsWrong)

/-- 'bargatelaw03.MacPads': WHATEVER THE INPUT: true; the input reads as it did. -/
def macPadsSpec : ChangeSpec := { name := "macPads", fn := fun _ => fun
  | [d1, d2] => { results := [.lit (.bool true)], args := [d1, d2] }
  | _ => none }
def macPadsRow : OpenClaim := { program := "ytiimppbfigikfaadoor", sum := "ef2e673a61f6096d172168135d9e78079f810ba9d7c2a638942afec5a345d1c1", func := "bargate/bargatelaw03.MacPads", spec := "macPads", named := ["bargate/crc.halfSums"], apart := false, laid := [("bargate/crc.halfSums", laid_bargate_crc_halfSums)] }
def MacPadsSaid : Prop := macPadsRow.holds Tryd.pinned (OpenSpec.ofChange macPadsSpec)

/-- ITS FALSE NEIGHBOUR: 'it returns false'. Refute it at one input. -/
def macPadsWrong : ChangeSpec := { name := "macPads", fn := fun _ => fun
  | [d1, d2] => { results := [.lit (.bool false)], args := [d1, d2] }
  | _ => none }
def MacPadsWrongFalsely : Prop := macPadsRow.holds Tryd.pinned (OpenSpec.ofChange macPadsWrong)

/-- 'bargatelaw03.MacLengths': WHATEVER THE INPUT: true; the input reads as it did. -/
def macLengthsSpec : ChangeSpec := { name := "macLengths", fn := fun _ => fun
  | [d1, d2] => { results := [.lit (.bool true)], args := [d1, d2] }
  | _ => none }
def macLengthsRow : OpenClaim := { program := "ytiimppbfigikfaadoor", sum := "ef2e673a61f6096d172168135d9e78079f810ba9d7c2a638942afec5a345d1c1", func := "bargate/bargatelaw03.MacLengths", spec := "macLengths", named := ["bargate/crc.halfSums"], apart := false, laid := [("bargate/crc.halfSums", laid_bargate_crc_halfSums)] }
def MacLengthsSaid : Prop := macLengthsRow.holds Tryd.pinned (OpenSpec.ofChange macLengthsSpec)

/-- ITS FALSE NEIGHBOUR: 'it returns false'. Refute it at one input. -/
def macLengthsWrong : ChangeSpec := { name := "macLengths", fn := fun _ => fun
  | [d1, d2] => { results := [.lit (.bool false)], args := [d1, d2] }
  | _ => none }
def MacLengthsWrongFalsely : Prop := macLengthsRow.holds Tryd.pinned (OpenSpec.ofChange macLengthsWrong)

/-- 'bargatelaw04.BpduParses': WHATEVER THE INPUT: true; the input reads as it did. -/
def bpduParsesSpec : ChangeSpec := { name := "bpduParses", fn := fun _ => fun
  | [d] => { results := [.lit (.bool true)], args := [d] }
  | _ => none }
def bpduParsesRow : OpenClaim := { program := "ytiimppbfigikfaadoor", sum := "ef2e673a61f6096d172168135d9e78079f810ba9d7c2a638942afec5a345d1c1", func := "bargate/bargatelaw04.BpduParses", spec := "bpduParses", named := ["bargate/crc.halfSums"], apart := false, laid := [("bargate/crc.halfSums", laid_bargate_crc_halfSums)] }
def BpduParsesSaid : Prop := bpduParsesRow.holds Tryd.pinned (OpenSpec.ofChange bpduParsesSpec)

/-- ITS FALSE NEIGHBOUR: 'it returns false'. Refute it at one input. -/
def bpduParsesWrong : ChangeSpec := { name := "bpduParses", fn := fun _ => fun
  | [d] => { results := [.lit (.bool false)], args := [d] }
  | _ => none }
def BpduParsesWrongFalsely : Prop := bpduParsesRow.holds Tryd.pinned (OpenSpec.ofChange bpduParsesWrong)

/-- 'bargatelaw04.BpduBuilds': WHATEVER THE INPUT: true; the input reads as it did. -/
def bpduBuildsSpec : ChangeSpec := { name := "bpduBuilds", fn := fun _ => fun
  | [d1, d2] => { results := [.lit (.bool true)], args := [d1, d2] }
  | _ => none }
def bpduBuildsRow : OpenClaim := { program := "ytiimppbfigikfaadoor", sum := "ef2e673a61f6096d172168135d9e78079f810ba9d7c2a638942afec5a345d1c1", func := "bargate/bargatelaw04.BpduBuilds", spec := "bpduBuilds", named := ["bargate/crc.halfSums"], apart := false, laid := [("bargate/crc.halfSums", laid_bargate_crc_halfSums)] }
def BpduBuildsSaid : Prop := bpduBuildsRow.holds Tryd.pinned (OpenSpec.ofChange bpduBuildsSpec)

/-- ITS FALSE NEIGHBOUR: 'it returns false'. Refute it at one input. -/
def bpduBuildsWrong : ChangeSpec := { name := "bpduBuilds", fn := fun _ => fun
  | [d1, d2] => { results := [.lit (.bool false)], args := [d1, d2] }
  | _ => none }
def BpduBuildsWrongFalsely : Prop := bpduBuildsRow.holds Tryd.pinned (OpenSpec.ofChange bpduBuildsWrong)

/-- 'bargatelaw04.BpduChecks': WHATEVER THE INPUT: true; the input reads as it did. -/
def bpduChecksSpec : ChangeSpec := { name := "bpduChecks", fn := fun _ => fun
  | [d] => { results := [.lit (.bool true)], args := [d] }
  | _ => none }
def bpduChecksRow : OpenClaim := { program := "ytiimppbfigikfaadoor", sum := "ef2e673a61f6096d172168135d9e78079f810ba9d7c2a638942afec5a345d1c1", func := "bargate/bargatelaw04.BpduChecks", spec := "bpduChecks", named := ["bargate/crc.halfSums"], apart := false, laid := [("bargate/crc.halfSums", laid_bargate_crc_halfSums)] }
def BpduChecksSaid : Prop := bpduChecksRow.holds Tryd.pinned (OpenSpec.ofChange bpduChecksSpec)

/-- ITS FALSE NEIGHBOUR: 'it returns false'. Refute it at one input. -/
def bpduChecksWrong : ChangeSpec := { name := "bpduChecks", fn := fun _ => fun
  | [d] => { results := [.lit (.bool false)], args := [d] }
  | _ => none }
def BpduChecksWrongFalsely : Prop := bpduChecksRow.holds Tryd.pinned (OpenSpec.ofChange bpduChecksWrong)

/-- 'bargatelaw04.BpduFrames': WHATEVER THE INPUT: true; the input reads as it did. -/
def bpduFramesSpec : ChangeSpec := { name := "bpduFrames", fn := fun _ => fun
  | [d1, d2] => { results := [.lit (.bool true)], args := [d1, d2] }
  | _ => none }
def bpduFramesRow : OpenClaim := { program := "ytiimppbfigikfaadoor", sum := "ef2e673a61f6096d172168135d9e78079f810ba9d7c2a638942afec5a345d1c1", func := "bargate/bargatelaw04.BpduFrames", spec := "bpduFrames", named := ["bargate/crc.halfSums"], apart := false, laid := [("bargate/crc.halfSums", laid_bargate_crc_halfSums)] }
def BpduFramesSaid : Prop := bpduFramesRow.holds Tryd.pinned (OpenSpec.ofChange bpduFramesSpec)

/-- ITS FALSE NEIGHBOUR: 'it returns false'. Refute it at one input. -/
def bpduFramesWrong : ChangeSpec := { name := "bpduFrames", fn := fun _ => fun
  | [d1, d2] => { results := [.lit (.bool false)], args := [d1, d2] }
  | _ => none }
def BpduFramesWrongFalsely : Prop := bpduFramesRow.holds Tryd.pinned (OpenSpec.ofChange bpduFramesWrong)

/-- 'bargatelaw04.BpduReserved': WHATEVER THE INPUT: true; the input reads as it did. -/
def bpduReservedSpec : ChangeSpec := { name := "bpduReserved", fn := fun _ => fun
  | [d] => { results := [.lit (.bool true)], args := [d] }
  | _ => none }
def bpduReservedRow : OpenClaim := { program := "ytiimppbfigikfaadoor", sum := "ef2e673a61f6096d172168135d9e78079f810ba9d7c2a638942afec5a345d1c1", func := "bargate/bargatelaw04.BpduReserved", spec := "bpduReserved", named := ["bargate/crc.halfSums"], apart := false, laid := [("bargate/crc.halfSums", laid_bargate_crc_halfSums)] }
def BpduReservedSaid : Prop := bpduReservedRow.holds Tryd.pinned (OpenSpec.ofChange bpduReservedSpec)

/-- ITS FALSE NEIGHBOUR: 'it returns false'. Refute it at one input. -/
def bpduReservedWrong : ChangeSpec := { name := "bpduReserved", fn := fun _ => fun
  | [d] => { results := [.lit (.bool false)], args := [d] }
  | _ => none }
def BpduReservedWrongFalsely : Prop := bpduReservedRow.holds Tryd.pinned (OpenSpec.ofChange bpduReservedWrong)

/-- 'bargatelaw04.BpduFlags': WHATEVER THE INPUT: true; the input reads as it did. -/
def bpduFlagsSpec : ChangeSpec := { name := "bpduFlags", fn := fun _ => fun
  | [d1, d2] => { results := [.lit (.bool true)], args := [d1, d2] }
  | _ => none }
def bpduFlagsRow : OpenClaim := { program := "ytiimppbfigikfaadoor", sum := "ef2e673a61f6096d172168135d9e78079f810ba9d7c2a638942afec5a345d1c1", func := "bargate/bargatelaw04.BpduFlags", spec := "bpduFlags", named := ["bargate/crc.halfSums"], apart := false, laid := [("bargate/crc.halfSums", laid_bargate_crc_halfSums)] }
def BpduFlagsSaid : Prop := bpduFlagsRow.holds Tryd.pinned (OpenSpec.ofChange bpduFlagsSpec)

/-- ITS FALSE NEIGHBOUR: 'it returns false'. Refute it at one input. -/
def bpduFlagsWrong : ChangeSpec := { name := "bpduFlags", fn := fun _ => fun
  | [d1, d2] => { results := [.lit (.bool false)], args := [d1, d2] }
  | _ => none }
def BpduFlagsWrongFalsely : Prop := bpduFlagsRow.holds Tryd.pinned (OpenSpec.ofChange bpduFlagsWrong)

/-- 'bargatetop.WholeMessages': WHATEVER THE INPUT: true; the input reads as it did. -/
def wholeMessagesSpec : ChangeSpec := { name := "wholeMessages", fn := fun _ => fun
  | [d1, d2, d3] => { results := [.lit (.bool true)], args := [d1, d2, d3] }
  | _ => none }
def wholeMessagesRow : OpenClaim := { program := "ytiimppbfigikfaadoor", sum := "ef2e673a61f6096d172168135d9e78079f810ba9d7c2a638942afec5a345d1c1", func := "bargate/bargatetop.WholeMessages", spec := "wholeMessages", named := ["bargate/crc.halfSums"], apart := false, laid := [("bargate/crc.halfSums", laid_bargate_crc_halfSums)] }
def WholeMessagesSaid : Prop := wholeMessagesRow.holds Tryd.pinned (OpenSpec.ofChange wholeMessagesSpec)

/-- ITS FALSE NEIGHBOUR: 'it returns false'. Refute it at one input. -/
def wholeMessagesWrong : ChangeSpec := { name := "wholeMessages", fn := fun _ => fun
  | [d1, d2, d3] => { results := [.lit (.bool false)], args := [d1, d2, d3] }
  | _ => none }
def WholeMessagesWrongFalsely : Prop := wholeMessagesRow.holds Tryd.pinned (OpenSpec.ofChange wholeMessagesWrong)

/- THE SECOND FORM. 'bulk': how many values and letters a reading holds, each counted each time it is reached (what is shared counts as often as it is met; a slice's spare places count too). A statement '..UptoSaid' is the law's where the arguments, and the package variables that the reading takes, are together of bulk at most 1048576: NARROWER than '..Said'. Prove '..Said' where nothing that the law and all that it calls make is longer than what came in: it says more and counts as full. Else prove '..UptoSaid'. A law counts once. -/
mutual
def uptoBulk {H : Type} : DataW H → Nat
  | .lit (.string bytes) => bytes.length + 1
  | .lit _ => 1
  | .nil => 1
  | .ptr d => uptoBulk d + 1
  | .slice elems spare => uptoBulkAll elems + uptoBulkAll spare + 1
  | .agg parts => uptoBulkAll parts + 1
  | .iface _ d => uptoBulk d + 1
  | .map entries => uptoBulkEntries entries + 1
  | .held _ => 1
def uptoBulkAll {H : Type} : List (DataW H) → Nat
  | [] => 0
  | d :: r => uptoBulk d + uptoBulkAll r
def uptoBulkEntries {H : Type} : List (Lit × DataW H) → Nat
  | [] => 0
  | x :: r => uptoBulkEntry x + uptoBulkEntries r
def uptoBulkEntry {H : Type} : Lit × DataW H → Nat
  | (.string bytes, d) => bytes.length + uptoBulk d + 1
  | (_, d) => uptoBulk d + 1
 end
def uptoSmall : (H : Type) → List (DataW H) → Bool := fun _ ds => decide (uptoBulkAll ds ≤ 1048576)
def OpenSpec.upto (s : _root_.Go.ChangeSpec) : _root_.Go.OpenSpec := { _root_.Go.OpenSpec.ofChange s with cond := some uptoSmall }

/-- 'bargatelaw03.MacParses', WHERE WHAT IT READS IS OF BULK AT MOST 1048576: true; the input reads as it did. -/
def macParsesUptoRow : OpenClaim := { program := "ytiimppbfigikfaadoor", sum := "ef2e673a61f6096d172168135d9e78079f810ba9d7c2a638942afec5a345d1c1", func := "bargate/bargatelaw03.MacParses", spec := "macParses", named := ["bargate/crc.halfSums"], apart := false, laid := [("bargate/crc.halfSums", laid_bargate_crc_halfSums)], narrowed := true }
def MacParsesUptoSaid : Prop := macParsesUptoRow.holds Tryd.pinned (OpenSpec.upto macParsesSpec)

/-- 'bargatelaw03.MacSealed', WHERE WHAT IT READS IS OF BULK AT MOST 1048576: true; the input reads as it did. -/
def macSealedUptoRow : OpenClaim := { program := "ytiimppbfigikfaadoor", sum := "ef2e673a61f6096d172168135d9e78079f810ba9d7c2a638942afec5a345d1c1", func := "bargate/bargatelaw03.MacSealed", spec := "macSealed", named := ["bargate/crc.halfSums"], apart := false, laid := [("bargate/crc.halfSums", laid_bargate_crc_halfSums)], narrowed := true }
def MacSealedUptoSaid : Prop := macSealedUptoRow.holds Tryd.pinned (OpenSpec.upto macSealedSpec)

/-- 'bargatelaw03.MacBuilds', WHERE WHAT IT READS IS OF BULK AT MOST 1048576: true; the input reads as it did. -/
def macBuildsUptoRow : OpenClaim := { program := "ytiimppbfigikfaadoor", sum := "ef2e673a61f6096d172168135d9e78079f810ba9d7c2a638942afec5a345d1c1", func := "bargate/bargatelaw03.MacBuilds", spec := "macBuilds", named := ["bargate/crc.halfSums"], apart := false, laid := [("bargate/crc.halfSums", laid_bargate_crc_halfSums)], narrowed := true }
def MacBuildsUptoSaid : Prop := macBuildsUptoRow.holds Tryd.pinned (OpenSpec.upto macBuildsSpec)

/-- 'bargatelaw03.MacChecks', WHERE WHAT IT READS IS OF BULK AT MOST 1048576: true; the input reads as it did. -/
def macChecksUptoRow : OpenClaim := { program := "ytiimppbfigikfaadoor", sum := "ef2e673a61f6096d172168135d9e78079f810ba9d7c2a638942afec5a345d1c1", func := "bargate/bargatelaw03.MacChecks", spec := "macChecks", named := ["bargate/crc.halfSums"], apart := false, laid := [("bargate/crc.halfSums", laid_bargate_crc_halfSums)], narrowed := true }
def MacChecksUptoSaid : Prop := macChecksUptoRow.holds Tryd.pinned (OpenSpec.upto macChecksSpec)

/-- 'bargatelaw03.MacTags', WHERE WHAT IT READS IS OF BULK AT MOST 1048576: true; the input reads as it did. -/
def macTagsUptoRow : OpenClaim := { program := "ytiimppbfigikfaadoor", sum := "ef2e673a61f6096d172168135d9e78079f810ba9d7c2a638942afec5a345d1c1", func := "bargate/bargatelaw03.MacTags", spec := "macTags", named := ["bargate/crc.halfSums"], apart := false, laid := [("bargate/crc.halfSums", laid_bargate_crc_halfSums)], narrowed := true }
def MacTagsUptoSaid : Prop := macTagsUptoRow.holds Tryd.pinned (OpenSpec.upto macTagsSpec)

/-- 'bargatelaw03.MacTexts', WHERE WHAT IT READS IS OF BULK AT MOST 1048576: true; the input reads as it did. -/
def macTextsUptoRow : OpenClaim := { program := "ytiimppbfigikfaadoor", sum := "ef2e673a61f6096d172168135d9e78079f810ba9d7c2a638942afec5a345d1c1", func := "bargate/bargatelaw03.MacTexts", spec := "macTexts", named := ["bargate/crc.halfSums"], apart := false, laid := [("bargate/crc.halfSums", laid_bargate_crc_halfSums)], narrowed := true }
def MacTextsUptoSaid : Prop := macTextsUptoRow.holds Tryd.pinned (OpenSpec.upto macTextsSpec)

/-- 'bargatelaw03.MacPads', WHERE WHAT IT READS IS OF BULK AT MOST 1048576: true; the input reads as it did. -/
def macPadsUptoRow : OpenClaim := { program := "ytiimppbfigikfaadoor", sum := "ef2e673a61f6096d172168135d9e78079f810ba9d7c2a638942afec5a345d1c1", func := "bargate/bargatelaw03.MacPads", spec := "macPads", named := ["bargate/crc.halfSums"], apart := false, laid := [("bargate/crc.halfSums", laid_bargate_crc_halfSums)], narrowed := true }
def MacPadsUptoSaid : Prop := macPadsUptoRow.holds Tryd.pinned (OpenSpec.upto macPadsSpec)

/-- 'bargatelaw03.MacLengths', WHERE WHAT IT READS IS OF BULK AT MOST 1048576: true; the input reads as it did. -/
def macLengthsUptoRow : OpenClaim := { program := "ytiimppbfigikfaadoor", sum := "ef2e673a61f6096d172168135d9e78079f810ba9d7c2a638942afec5a345d1c1", func := "bargate/bargatelaw03.MacLengths", spec := "macLengths", named := ["bargate/crc.halfSums"], apart := false, laid := [("bargate/crc.halfSums", laid_bargate_crc_halfSums)], narrowed := true }
def MacLengthsUptoSaid : Prop := macLengthsUptoRow.holds Tryd.pinned (OpenSpec.upto macLengthsSpec)

/-- 'bargatelaw04.BpduParses', WHERE WHAT IT READS IS OF BULK AT MOST 1048576: true; the input reads as it did. -/
def bpduParsesUptoRow : OpenClaim := { program := "ytiimppbfigikfaadoor", sum := "ef2e673a61f6096d172168135d9e78079f810ba9d7c2a638942afec5a345d1c1", func := "bargate/bargatelaw04.BpduParses", spec := "bpduParses", named := ["bargate/crc.halfSums"], apart := false, laid := [("bargate/crc.halfSums", laid_bargate_crc_halfSums)], narrowed := true }
def BpduParsesUptoSaid : Prop := bpduParsesUptoRow.holds Tryd.pinned (OpenSpec.upto bpduParsesSpec)

/-- 'bargatelaw04.BpduBuilds', WHERE WHAT IT READS IS OF BULK AT MOST 1048576: true; the input reads as it did. -/
def bpduBuildsUptoRow : OpenClaim := { program := "ytiimppbfigikfaadoor", sum := "ef2e673a61f6096d172168135d9e78079f810ba9d7c2a638942afec5a345d1c1", func := "bargate/bargatelaw04.BpduBuilds", spec := "bpduBuilds", named := ["bargate/crc.halfSums"], apart := false, laid := [("bargate/crc.halfSums", laid_bargate_crc_halfSums)], narrowed := true }
def BpduBuildsUptoSaid : Prop := bpduBuildsUptoRow.holds Tryd.pinned (OpenSpec.upto bpduBuildsSpec)

/-- 'bargatelaw04.BpduChecks', WHERE WHAT IT READS IS OF BULK AT MOST 1048576: true; the input reads as it did. -/
def bpduChecksUptoRow : OpenClaim := { program := "ytiimppbfigikfaadoor", sum := "ef2e673a61f6096d172168135d9e78079f810ba9d7c2a638942afec5a345d1c1", func := "bargate/bargatelaw04.BpduChecks", spec := "bpduChecks", named := ["bargate/crc.halfSums"], apart := false, laid := [("bargate/crc.halfSums", laid_bargate_crc_halfSums)], narrowed := true }
def BpduChecksUptoSaid : Prop := bpduChecksUptoRow.holds Tryd.pinned (OpenSpec.upto bpduChecksSpec)

/-- 'bargatelaw04.BpduFrames', WHERE WHAT IT READS IS OF BULK AT MOST 1048576: true; the input reads as it did. -/
def bpduFramesUptoRow : OpenClaim := { program := "ytiimppbfigikfaadoor", sum := "ef2e673a61f6096d172168135d9e78079f810ba9d7c2a638942afec5a345d1c1", func := "bargate/bargatelaw04.BpduFrames", spec := "bpduFrames", named := ["bargate/crc.halfSums"], apart := false, laid := [("bargate/crc.halfSums", laid_bargate_crc_halfSums)], narrowed := true }
def BpduFramesUptoSaid : Prop := bpduFramesUptoRow.holds Tryd.pinned (OpenSpec.upto bpduFramesSpec)

/-- 'bargatelaw04.BpduReserved', WHERE WHAT IT READS IS OF BULK AT MOST 1048576: true; the input reads as it did. -/
def bpduReservedUptoRow : OpenClaim := { program := "ytiimppbfigikfaadoor", sum := "ef2e673a61f6096d172168135d9e78079f810ba9d7c2a638942afec5a345d1c1", func := "bargate/bargatelaw04.BpduReserved", spec := "bpduReserved", named := ["bargate/crc.halfSums"], apart := false, laid := [("bargate/crc.halfSums", laid_bargate_crc_halfSums)], narrowed := true }
def BpduReservedUptoSaid : Prop := bpduReservedUptoRow.holds Tryd.pinned (OpenSpec.upto bpduReservedSpec)

/-- 'bargatelaw04.BpduFlags', WHERE WHAT IT READS IS OF BULK AT MOST 1048576: true; the input reads as it did. -/
def bpduFlagsUptoRow : OpenClaim := { program := "ytiimppbfigikfaadoor", sum := "ef2e673a61f6096d172168135d9e78079f810ba9d7c2a638942afec5a345d1c1", func := "bargate/bargatelaw04.BpduFlags", spec := "bpduFlags", named := ["bargate/crc.halfSums"], apart := false, laid := [("bargate/crc.halfSums", laid_bargate_crc_halfSums)], narrowed := true }
def BpduFlagsUptoSaid : Prop := bpduFlagsUptoRow.holds Tryd.pinned (OpenSpec.upto bpduFlagsSpec)

/-- 'bargatetop.WholeMessages', WHERE WHAT IT READS IS OF BULK AT MOST 1048576: true; the input reads as it did. -/
def wholeMessagesUptoRow : OpenClaim := { program := "ytiimppbfigikfaadoor", sum := "ef2e673a61f6096d172168135d9e78079f810ba9d7c2a638942afec5a345d1c1", func := "bargate/bargatetop.WholeMessages", spec := "wholeMessages", named := ["bargate/crc.halfSums"], apart := false, laid := [("bargate/crc.halfSums", laid_bargate_crc_halfSums)], narrowed := true }
def WholeMessagesUptoSaid : Prop := wholeMessagesUptoRow.holds Tryd.pinned (OpenSpec.upto wholeMessagesSpec)

end Rows
end Go.Proofs.YtiimppbfigikfaaDoor
