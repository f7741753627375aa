/-
  NARROWER THAN 'FOR EVERY INPUT', by the rows' own cells (each row's printed sentence says how): MacTags: laid · BpduParses: laid · BpduFlags: laid · WholeTimes: laid.
  DERIVED. THE GIVEN ROWS OF THIS SEAT. 4 by the template 'for every input the law returns true; each argument reads behind the call as it read before'; 0 by the template 'total and deterministic' (their statements: YtmakaadmjgakaaaDoorTotals.lean).
  GIVEN WITH THE SEED: the statements are not yours to turn. If you find one false, say at which input.
  Laid BY PROGRAM, IN A SANDBOX (cutbox-rows.mjs): the forced cells as the released guide's own fill.sh prints them over the translation c11cdf25f4d5812c… (all of the seat's roots in one cut). By AI agents, Wed Nov 11 2026. No macro, syntax, notation, axiom, sorry.
-/
import Derived.Test.YtmakaadmjgakaaaDoorChecked
import GoSem.Claim
import GoSem.ClaimJoined
import GoSem.ClaimMapViews
import Derived.JoinedTies
import Derived.KernelRfl
namespace Go.Proofs.YtmakaadmjgakaaaDoor
/- THE CELL 'sum', in the pinned program and in every row, IS THE sha256 OF THE DUMP (.gsa) THAT YtmakaadmjgakaaaDoorProg.lean LOADS. Nothing in Lean hashes anything: it is a label: what it is worth is what the hold of that sum in a sandbox is worth. -/
noncomputable def Tryd.pinned : Pinned := { name := "ytmakaadmjgakaaadoor", sum := "c11cdf25f4d5812c98a889b18e556248584d1dc448b070491fc3567dad3be1ba", checked := Tryd.checked }
namespace Rows
def none {H : Type} : Left H := { results := [], args := [] }

/- WHAT THE LISTED PACKAGE-LEVEL VARIABLES READ AS WHEN THE CALL BEGINS. Each datum BY PROGRAM (the guide's laid-datum.mjs) off the statement by which the dump's own 'gosem.cut.vars' lays the variable. In a bare row this is a premise. The card (YtmakaadmjgakaaaDoorCards.lean) ties it to the program's text. -/
def laid_bargate_crc_halfSums {H : Type} : DataW H := .agg [.lit (.int .u32 0), .lit (.int .u32 498536548), .lit (.int .u32 997073096), .lit (.int .u32 651767980), .lit (.int .u32 1994146192), .lit (.int .u32 1802195444), .lit (.int .u32 1303535960), .lit (.int .u32 1342533948), .lit (.int .u32 3988292384), .lit (.int .u32 4027552580), .lit (.int .u32 3604390888), .lit (.int .u32 3412177804), .lit (.int .u32 2607071920), .lit (.int .u32 2262029012), .lit (.int .u32 2685067896), .lit (.int .u32 3183342108)]

/-- 'bargatelaw03.MacTags': WHATEVER THE INPUT: true; the input reads as it did. -/
def macTagsSpec : ChangeSpec := { name := "macTags", fn := fun _ => fun
  | [d1, d2, d3] => { results := [.lit (.bool true)], args := [d1, d2, d3] }
  | _ => none }
def macTagsRow : OpenClaim := { program := "ytmakaadmjgakaaadoor", sum := "c11cdf25f4d5812c98a889b18e556248584d1dc448b070491fc3567dad3be1ba", func := "bargate/bargatelaw03.MacTags", spec := "macTags", named := ["bargate/crc.halfSums"], apart := false, laid := [("bargate/crc.halfSums", laid_bargate_crc_halfSums)] }
def MacTagsSaid : Prop := macTagsRow.holds Tryd.pinned (OpenSpec.ofChange macTagsSpec)

/-- ITS FALSE NEIGHBOUR: 'it returns false'. Refute it at one input. -/
def macTagsWrong : ChangeSpec := { name := "macTags", fn := fun _ => fun
  | [d1, d2, d3] => { results := [.lit (.bool false)], args := [d1, d2, d3] }
  | _ => none }
def MacTagsWrongFalsely : Prop := macTagsRow.holds Tryd.pinned (OpenSpec.ofChange macTagsWrong)

/-- 'bargatelaw04.BpduParses': WHATEVER THE INPUT: true; the input reads as it did. -/
def bpduParsesSpec : ChangeSpec := { name := "bpduParses", fn := fun _ => fun
  | [d] => { results := [.lit (.bool true)], args := [d] }
  | _ => none }
def bpduParsesRow : OpenClaim := { program := "ytmakaadmjgakaaadoor", sum := "c11cdf25f4d5812c98a889b18e556248584d1dc448b070491fc3567dad3be1ba", func := "bargate/bargatelaw04.BpduParses", spec := "bpduParses", named := ["bargate/crc.halfSums"], apart := false, laid := [("bargate/crc.halfSums", laid_bargate_crc_halfSums)] }
def BpduParsesSaid : Prop := bpduParsesRow.holds Tryd.pinned (OpenSpec.ofChange bpduParsesSpec)

/-- ITS FALSE NEIGHBOUR: 'it returns false'. Refute it at one input. -/
def bpduParsesWrong : ChangeSpec := { name := "bpduParses", fn := fun _ => fun
  | [d] => { results := [.lit (.bool false)], args := [d] }
  | _ => none }
def BpduParsesWrongFalsely : Prop := bpduParsesRow.holds Tryd.pinned (OpenSpec.ofChange bpduParsesWrong)

/-- 'bargatelaw04.BpduFlags': WHATEVER THE INPUT: true; the input reads as it did. -/
def bpduFlagsSpec : ChangeSpec := { name := "bpduFlags", fn := fun _ => fun
  | [d1, d2] => { results := [.lit (.bool true)], args := [d1, d2] }
  | _ => none }
def bpduFlagsRow : OpenClaim := { program := "ytmakaadmjgakaaadoor", sum := "c11cdf25f4d5812c98a889b18e556248584d1dc448b070491fc3567dad3be1ba", func := "bargate/bargatelaw04.BpduFlags", spec := "bpduFlags", named := ["bargate/crc.halfSums"], apart := false, laid := [("bargate/crc.halfSums", laid_bargate_crc_halfSums)] }
def BpduFlagsSaid : Prop := bpduFlagsRow.holds Tryd.pinned (OpenSpec.ofChange bpduFlagsSpec)

/-- ITS FALSE NEIGHBOUR: 'it returns false'. Refute it at one input. -/
def bpduFlagsWrong : ChangeSpec := { name := "bpduFlags", fn := fun _ => fun
  | [d1, d2] => { results := [.lit (.bool false)], args := [d1, d2] }
  | _ => none }
def BpduFlagsWrongFalsely : Prop := bpduFlagsRow.holds Tryd.pinned (OpenSpec.ofChange bpduFlagsWrong)

/-- 'bargatetop.WholeTimes': WHATEVER THE INPUT: true; the input reads as it did. -/
def wholeTimesSpec : ChangeSpec := { name := "wholeTimes", fn := fun _ => fun
  | [d1, d2] => { results := [.lit (.bool true)], args := [d1, d2] }
  | _ => none }
def wholeTimesRow : OpenClaim := { program := "ytmakaadmjgakaaadoor", sum := "c11cdf25f4d5812c98a889b18e556248584d1dc448b070491fc3567dad3be1ba", func := "bargate/bargatetop.WholeTimes", spec := "wholeTimes", named := ["bargate/crc.halfSums"], apart := false, laid := [("bargate/crc.halfSums", laid_bargate_crc_halfSums)] }
def WholeTimesSaid : Prop := wholeTimesRow.holds Tryd.pinned (OpenSpec.ofChange wholeTimesSpec)

/-- ITS FALSE NEIGHBOUR: 'it returns false'. Refute it at one input. -/
def wholeTimesWrong : ChangeSpec := { name := "wholeTimes", fn := fun _ => fun
  | [d1, d2] => { results := [.lit (.bool false)], args := [d1, d2] }
  | _ => none }
def WholeTimesWrongFalsely : Prop := wholeTimesRow.holds Tryd.pinned (OpenSpec.ofChange wholeTimesWrong)

/- THE SECOND FORM. 'bulk': how many values and letters a reading holds, each counted each time it is reached (what is shared counts as often as it is met; a slice's spare places count too). A statement '..UptoSaid' is the law's where the arguments, and the package variables that the reading takes, are together of bulk at most 1048576: NARROWER than '..Said'. Prove '..Said' where nothing that the law and all that it calls make is longer than what came in: it says more and counts as full. Else prove '..UptoSaid'. A law counts once. -/
mutual
def uptoBulk {H : Type} : DataW H → Nat
  | .lit (.string bytes) => bytes.length + 1
  | .lit _ => 1
  | .nil => 1
  | .ptr d => uptoBulk d + 1
  | .slice elems spare => uptoBulkAll elems + uptoBulkAll spare + 1
  | .agg parts => uptoBulkAll parts + 1
  | .iface _ d => uptoBulk d + 1
  | .map entries => uptoBulkEntries entries + 1
  | .held _ => 1
def uptoBulkAll {H : Type} : List (DataW H) → Nat
  | [] => 0
  | d :: r => uptoBulk d + uptoBulkAll r
def uptoBulkEntries {H : Type} : List (Lit × DataW H) → Nat
  | [] => 0
  | x :: r => uptoBulkEntry x + uptoBulkEntries r
def uptoBulkEntry {H : Type} : Lit × DataW H → Nat
  | (.string bytes, d) => bytes.length + uptoBulk d + 1
  | (_, d) => uptoBulk d + 1
 end
def uptoSmall : (H : Type) → List (DataW H) → Bool := fun _ ds => decide (uptoBulkAll ds ≤ 1048576)
def OpenSpec.upto (s : _root_.Go.ChangeSpec) : _root_.Go.OpenSpec := { _root_.Go.OpenSpec.ofChange s with cond := some uptoSmall }

/-- 'bargatelaw03.MacTags', WHERE WHAT IT READS IS OF BULK AT MOST 1048576: true; the input reads as it did. -/
def macTagsUptoRow : OpenClaim := { program := "ytmakaadmjgakaaadoor", sum := "c11cdf25f4d5812c98a889b18e556248584d1dc448b070491fc3567dad3be1ba", func := "bargate/bargatelaw03.MacTags", spec := "macTags", named := ["bargate/crc.halfSums"], apart := false, laid := [("bargate/crc.halfSums", laid_bargate_crc_halfSums)], narrowed := true }
def MacTagsUptoSaid : Prop := macTagsUptoRow.holds Tryd.pinned (OpenSpec.upto macTagsSpec)

/-- 'bargatelaw04.BpduParses', WHERE WHAT IT READS IS OF BULK AT MOST 1048576: true; the input reads as it did. -/
def bpduParsesUptoRow : OpenClaim := { program := "ytmakaadmjgakaaadoor", sum := "c11cdf25f4d5812c98a889b18e556248584d1dc448b070491fc3567dad3be1ba", func := "bargate/bargatelaw04.BpduParses", spec := "bpduParses", named := ["bargate/crc.halfSums"], apart := false, laid := [("bargate/crc.halfSums", laid_bargate_crc_halfSums)], narrowed := true }
def BpduParsesUptoSaid : Prop := bpduParsesUptoRow.holds Tryd.pinned (OpenSpec.upto bpduParsesSpec)

/-- 'bargatelaw04.BpduFlags', WHERE WHAT IT READS IS OF BULK AT MOST 1048576: true; the input reads as it did. -/
def bpduFlagsUptoRow : OpenClaim := { program := "ytmakaadmjgakaaadoor", sum := "c11cdf25f4d5812c98a889b18e556248584d1dc448b070491fc3567dad3be1ba", func := "bargate/bargatelaw04.BpduFlags", spec := "bpduFlags", named := ["bargate/crc.halfSums"], apart := false, laid := [("bargate/crc.halfSums", laid_bargate_crc_halfSums)], narrowed := true }
def BpduFlagsUptoSaid : Prop := bpduFlagsUptoRow.holds Tryd.pinned (OpenSpec.upto bpduFlagsSpec)

/-- 'bargatetop.WholeTimes', WHERE WHAT IT READS IS OF BULK AT MOST 1048576: true; the input reads as it did. -/
def wholeTimesUptoRow : OpenClaim := { program := "ytmakaadmjgakaaadoor", sum := "c11cdf25f4d5812c98a889b18e556248584d1dc448b070491fc3567dad3be1ba", func := "bargate/bargatetop.WholeTimes", spec := "wholeTimes", named := ["bargate/crc.halfSums"], apart := false, laid := [("bargate/crc.halfSums", laid_bargate_crc_halfSums)], narrowed := true }
def WholeTimesUptoSaid : Prop := wholeTimesUptoRow.holds Tryd.pinned (OpenSpec.upto wholeTimesSpec)

end Rows
end Go.Proofs.YtmakaadmjgakaaaDoor
