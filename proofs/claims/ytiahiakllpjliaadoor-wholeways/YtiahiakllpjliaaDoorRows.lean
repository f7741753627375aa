/-
  NARROWER THAN 'FOR EVERY INPUT', by the rows' own cells (each row's printed sentence says how): RelayDress: laid · WholeWays: laid.
  DERIVED. THE GIVEN ROWS OF THIS SEAT. 2 by the template 'for every input the law returns true; each argument reads behind the call as it read before'; 0 by the template 'total and deterministic' (their statements: YtiahiakllpjliaaDoorTotals.lean).
  GIVEN WITH THE SEED: the statements are not yours to turn. If you find one false, say at which input.
  Laid BY PROGRAM, IN A SANDBOX (cutbox-rows.mjs): the forced cells as the released guide's own fill.sh prints them over the translation fc820998987362af… (all of the seat's roots in one cut). By AI agents, Wed Nov 11 2026. No macro, syntax, notation, axiom, sorry.
-/
import Derived.Test.YtiahiakllpjliaaDoorChecked
import GoSem.Claim
import GoSem.ClaimJoined
import GoSem.ClaimMapViews
import Derived.JoinedTies
import Derived.KernelRfl
namespace Go.Proofs.YtiahiakllpjliaaDoor
/- THE CELL 'sum', in the pinned program and in every row, IS THE sha256 OF THE DUMP (.gsa) THAT YtiahiakllpjliaaDoorProg.lean LOADS. Nothing in Lean hashes anything: it is a label: what it is worth is what the hold of that sum in a sandbox is worth. -/
noncomputable def Tryd.pinned : Pinned := { name := "ytiahiakllpjliaadoor", sum := "fc820998987362af96d23a66569a3b350e707978705550b41ea8ae98dd829ca6", checked := Tryd.checked }
namespace Rows
def none {H : Type} : Left H := { results := [], args := [] }

/- WHAT THE LISTED PACKAGE-LEVEL VARIABLES READ AS WHEN THE CALL BEGINS. Each datum BY PROGRAM (the guide's laid-datum.mjs) off the statement by which the dump's own 'gosem.cut.vars' lays the variable. In a bare row this is a premise. The card (YtiahiakllpjliaaDoorCards.lean) ties it to the program's text. -/
def laid_bargate_crc_halfSums {H : Type} : DataW H := .agg [.lit (.int .u32 0), .lit (.int .u32 498536548), .lit (.int .u32 997073096), .lit (.int .u32 651767980), .lit (.int .u32 1994146192), .lit (.int .u32 1802195444), .lit (.int .u32 1303535960), .lit (.int .u32 1342533948), .lit (.int .u32 3988292384), .lit (.int .u32 4027552580), .lit (.int .u32 3604390888), .lit (.int .u32 3412177804), .lit (.int .u32 2607071920), .lit (.int .u32 2262029012), .lit (.int .u32 2685067896), .lit (.int .u32 3183342108)]

/-- 'bargatelaw13.RelayDress': WHATEVER THE INPUT: true; the input reads as it did. -/
def relayDressSpec : ChangeSpec := { name := "relayDress", fn := fun _ => fun
  | [d1, d2, d3] => { results := [.lit (.bool true)], args := [d1, d2, d3] }
  | _ => none }
def relayDressRow : OpenClaim := { program := "ytiahiakllpjliaadoor", sum := "fc820998987362af96d23a66569a3b350e707978705550b41ea8ae98dd829ca6", func := "bargate/bargatelaw13.RelayDress", spec := "relayDress", unfollowed := true, recurses := true, named := ["bargate/crc.halfSums"], apart := false, laid := [("bargate/crc.halfSums", laid_bargate_crc_halfSums)] }
def RelayDressSaid : Prop := relayDressRow.holds Tryd.pinned (OpenSpec.ofChange relayDressSpec)

/-- ITS FALSE NEIGHBOUR: 'it returns false'. Refute it at one input. -/
def relayDressWrong : ChangeSpec := { name := "relayDress", fn := fun _ => fun
  | [d1, d2, d3] => { results := [.lit (.bool false)], args := [d1, d2, d3] }
  | _ => none }
def RelayDressWrongFalsely : Prop := relayDressRow.holds Tryd.pinned (OpenSpec.ofChange relayDressWrong)

/-- 'bargatetop.WholeWays': WHATEVER THE INPUT: true; the input reads as it did. -/
def wholeWaysSpec : ChangeSpec := { name := "wholeWays", fn := fun _ => fun
  | [d1, d2, d3] => { results := [.lit (.bool true)], args := [d1, d2, d3] }
  | _ => none }
def wholeWaysRow : OpenClaim := { program := "ytiahiakllpjliaadoor", sum := "fc820998987362af96d23a66569a3b350e707978705550b41ea8ae98dd829ca6", func := "bargate/bargatetop.WholeWays", spec := "wholeWays", unfollowed := true, recurses := true, named := ["bargate/crc.halfSums"], apart := false, laid := [("bargate/crc.halfSums", laid_bargate_crc_halfSums)] }
def WholeWaysSaid : Prop := wholeWaysRow.holds Tryd.pinned (OpenSpec.ofChange wholeWaysSpec)

/-- ITS FALSE NEIGHBOUR: 'it returns false'. Refute it at one input. -/
def wholeWaysWrong : ChangeSpec := { name := "wholeWays", fn := fun _ => fun
  | [d1, d2, d3] => { results := [.lit (.bool false)], args := [d1, d2, d3] }
  | _ => none }
def WholeWaysWrongFalsely : Prop := wholeWaysRow.holds Tryd.pinned (OpenSpec.ofChange wholeWaysWrong)

/- THE SECOND FORM. 'bulk': how many values and letters a reading holds, each counted each time it is reached (what is shared counts as often as it is met; a slice's spare places count too). A statement '..UptoSaid' is the law's where the arguments, and the package variables that the reading takes, are together of bulk at most 1048576: NARROWER than '..Said'. Prove '..Said' where nothing that the law and all that it calls make is longer than what came in: it says more and counts as full. Else prove '..UptoSaid'. A law counts once. -/
mutual
def uptoBulk {H : Type} : DataW H → Nat
  | .lit (.string bytes) => bytes.length + 1
  | .lit _ => 1
  | .nil => 1
  | .ptr d => uptoBulk d + 1
  | .slice elems spare => uptoBulkAll elems + uptoBulkAll spare + 1
  | .agg parts => uptoBulkAll parts + 1
  | .iface _ d => uptoBulk d + 1
  | .map entries => uptoBulkEntries entries + 1
  | .held _ => 1
def uptoBulkAll {H : Type} : List (DataW H) → Nat
  | [] => 0
  | d :: r => uptoBulk d + uptoBulkAll r
def uptoBulkEntries {H : Type} : List (Lit × DataW H) → Nat
  | [] => 0
  | x :: r => uptoBulkEntry x + uptoBulkEntries r
def uptoBulkEntry {H : Type} : Lit × DataW H → Nat
  | (.string bytes, d) => bytes.length + uptoBulk d + 1
  | (_, d) => uptoBulk d + 1
 end
def uptoSmall : (H : Type) → List (DataW H) → Bool := fun _ ds => decide (uptoBulkAll ds ≤ 1048576)
def OpenSpec.upto (s : _root_.Go.ChangeSpec) : _root_.Go.OpenSpec := { _root_.Go.OpenSpec.ofChange s with cond := some uptoSmall }

/-- 'bargatelaw13.RelayDress', WHERE WHAT IT READS IS OF BULK AT MOST 1048576: true; the input reads as it did. -/
def relayDressUptoRow : OpenClaim := { program := "ytiahiakllpjliaadoor", sum := "fc820998987362af96d23a66569a3b350e707978705550b41ea8ae98dd829ca6", func := "bargate/bargatelaw13.RelayDress", spec := "relayDress", unfollowed := true, recurses := true, named := ["bargate/crc.halfSums"], apart := false, laid := [("bargate/crc.halfSums", laid_bargate_crc_halfSums)], narrowed := true }
def RelayDressUptoSaid : Prop := relayDressUptoRow.holds Tryd.pinned (OpenSpec.upto relayDressSpec)

/-- 'bargatetop.WholeWays', WHERE WHAT IT READS IS OF BULK AT MOST 1048576: true; the input reads as it did. -/
def wholeWaysUptoRow : OpenClaim := { program := "ytiahiakllpjliaadoor", sum := "fc820998987362af96d23a66569a3b350e707978705550b41ea8ae98dd829ca6", func := "bargate/bargatetop.WholeWays", spec := "wholeWays", unfollowed := true, recurses := true, named := ["bargate/crc.halfSums"], apart := false, laid := [("bargate/crc.halfSums", laid_bargate_crc_halfSums)], narrowed := true }
def WholeWaysUptoSaid : Prop := wholeWaysUptoRow.holds Tryd.pinned (OpenSpec.upto wholeWaysSpec)

end Rows
end Go.Proofs.YtiahiakllpjliaaDoor
