/-
  NARROWER THAN 'FOR EVERY INPUT', by the rows' own cells (each row's printed sentence says how): CrcSums: laid · CrcSeals: laid · CrcOpens: laid · CrcAdds: laid · CrcBursts: laid · WholeSeals: laid.
  DERIVED. THE GIVEN ROWS OF THIS SEAT. 6 by the template 'for every input the law returns true; each argument reads behind the call as it read before'; 0 by the template 'total and deterministic' (their statements: YtjoejbdgiepdcaaDoorTotals.lean).
  GIVEN WITH THE SEED: the statements are not yours to turn. If you find one false, say at which input.
  Laid BY PROGRAM, IN A SANDBOX (cutbox-rows.mjs): the forced cells as the released guide's own fill.sh prints them over the translation 13752478a139216b… (all of the seat's roots in one cut). By AI agents, Wed Nov 11 2026. No macro, syntax, notation, axiom, sorry.
-/
import Derived.Test.YtjoejbdgiepdcaaDoorChecked
import GoSem.Claim
import GoSem.ClaimJoined
import GoSem.ClaimMapViews
import Derived.JoinedTies
import Derived.KernelRfl
namespace Go.Proofs.YtjoejbdgiepdcaaDoor
/- THE CELL 'sum', in the pinned program and in every row, IS THE sha256 OF THE DUMP (.gsa) THAT YtjoejbdgiepdcaaDoorProg.lean LOADS. Nothing in Lean hashes anything: it is a label: what it is worth is what the hold of that sum in a sandbox is worth. -/
noncomputable def Tryd.pinned : Pinned := { name := "ytjoejbdgiepdcaadoor", sum := "13752478a139216bb41651e7eec5baaa79a4946d0e84b24b22c2c5345b9d73f3", checked := Tryd.checked }
namespace Rows
def none {H : Type} : Left H := { results := [], args := [] }

/- WHAT THE LISTED PACKAGE-LEVEL VARIABLES READ AS WHEN THE CALL BEGINS. Each datum BY PROGRAM (the guide's laid-datum.mjs) off the statement by which the dump's own 'gosem.cut.vars' lays the variable. In a bare row this is a premise. The card (YtjoejbdgiepdcaaDoorCards.lean) ties it to the program's text. -/
def laid_bargate_crc_halfSums {H : Type} : DataW H := .agg [.lit (.int .u32 0), .lit (.int .u32 498536548), .lit (.int .u32 997073096), .lit (.int .u32 651767980), .lit (.int .u32 1994146192), .lit (.int .u32 1802195444), .lit (.int .u32 1303535960), .lit (.int .u32 1342533948), .lit (.int .u32 3988292384), .lit (.int .u32 4027552580), .lit (.int .u32 3604390888), .lit (.int .u32 3412177804), .lit (.int .u32 2607071920), .lit (.int .u32 2262029012), .lit (.int .u32 2685067896), .lit (.int .u32 3183342108)]

/-- 'bargatelaw02.CrcSums': WHATEVER THE INPUT: true; the input reads as it did. -/
def crcSumsSpec : ChangeSpec := { name := "crcSums", fn := fun _ => fun
  | [d] => { results := [.lit (.bool true)], args := [d] }
  | _ => none }
def crcSumsRow : OpenClaim := { program := "ytjoejbdgiepdcaadoor", sum := "13752478a139216bb41651e7eec5baaa79a4946d0e84b24b22c2c5345b9d73f3", func := "bargate/bargatelaw02.CrcSums", spec := "crcSums", named := ["bargate/crc.halfSums"], apart := false, laid := [("bargate/crc.halfSums", laid_bargate_crc_halfSums)] }
def CrcSumsSaid : Prop := crcSumsRow.holds Tryd.pinned (OpenSpec.ofChange crcSumsSpec)

/-- ITS FALSE NEIGHBOUR: 'it returns false'. Refute it at one input. -/
def crcSumsWrong : ChangeSpec := { name := "crcSums", fn := fun _ => fun
  | [d] => { results := [.lit (.bool false)], args := [d] }
  | _ => none }
def CrcSumsWrongFalsely : Prop := crcSumsRow.holds Tryd.pinned (OpenSpec.ofChange crcSumsWrong)

/-- 'bargatelaw02.CrcSeals': WHATEVER THE INPUT: true; the input reads as it did. -/
def crcSealsSpec : ChangeSpec := { name := "crcSeals", fn := fun _ => fun
  | [d1, d2, d3] => { results := [.lit (.bool true)], args := [d1, d2, d3] }
  | _ => none }
def crcSealsRow : OpenClaim := { program := "ytjoejbdgiepdcaadoor", sum := "13752478a139216bb41651e7eec5baaa79a4946d0e84b24b22c2c5345b9d73f3", func := "bargate/bargatelaw02.CrcSeals", spec := "crcSeals", named := ["bargate/crc.halfSums"], apart := false, laid := [("bargate/crc.halfSums", laid_bargate_crc_halfSums)] }
def CrcSealsSaid : Prop := crcSealsRow.holds Tryd.pinned (OpenSpec.ofChange crcSealsSpec)

/-- ITS FALSE NEIGHBOUR: 'it returns false'. Refute it at one input. -/
def crcSealsWrong : ChangeSpec := { name := "crcSeals", fn := fun _ => fun
  | [d1, d2, d3] => { results := [.lit (.bool false)], args := [d1, d2, d3] }
  | _ => none }
def CrcSealsWrongFalsely : Prop := crcSealsRow.holds Tryd.pinned (OpenSpec.ofChange crcSealsWrong)

/-- 'bargatelaw02.CrcOpens': WHATEVER THE INPUT: true; the input reads as it did. -/
def crcOpensSpec : ChangeSpec := { name := "crcOpens", fn := fun _ => fun
  | [d] => { results := [.lit (.bool true)], args := [d] }
  | _ => none }
def crcOpensRow : OpenClaim := { program := "ytjoejbdgiepdcaadoor", sum := "13752478a139216bb41651e7eec5baaa79a4946d0e84b24b22c2c5345b9d73f3", func := "bargate/bargatelaw02.CrcOpens", spec := "crcOpens", named := ["bargate/crc.halfSums"], apart := false, laid := [("bargate/crc.halfSums", laid_bargate_crc_halfSums)] }
def CrcOpensSaid : Prop := crcOpensRow.holds Tryd.pinned (OpenSpec.ofChange crcOpensSpec)

/-- ITS FALSE NEIGHBOUR: 'it returns false'. Refute it at one input. -/
def crcOpensWrong : ChangeSpec := { name := "crcOpens", fn := fun _ => fun
  | [d] => { results := [.lit (.bool false)], args := [d] }
  | _ => none }
def CrcOpensWrongFalsely : Prop := crcOpensRow.holds Tryd.pinned (OpenSpec.ofChange crcOpensWrong)

/-- 'bargatelaw02.CrcAdds': WHATEVER THE INPUT: true; the input reads as it did. -/
def crcAddsSpec : ChangeSpec := { name := "crcAdds", fn := fun _ => fun
  | [d1, d2, d3] => { results := [.lit (.bool true)], args := [d1, d2, d3] }
  | _ => none }
def crcAddsRow : OpenClaim := { program := "ytjoejbdgiepdcaadoor", sum := "13752478a139216bb41651e7eec5baaa79a4946d0e84b24b22c2c5345b9d73f3", func := "bargate/bargatelaw02.CrcAdds", spec := "crcAdds", named := ["bargate/crc.halfSums"], apart := false, laid := [("bargate/crc.halfSums", laid_bargate_crc_halfSums)] }
def CrcAddsSaid : Prop := crcAddsRow.holds Tryd.pinned (OpenSpec.ofChange crcAddsSpec)

/-- ITS FALSE NEIGHBOUR: 'it returns false'. Refute it at one input. -/
def crcAddsWrong : ChangeSpec := { name := "crcAdds", fn := fun _ => fun
  | [d1, d2, d3] => { results := [.lit (.bool false)], args := [d1, d2, d3] }
  | _ => none }
def CrcAddsWrongFalsely : Prop := crcAddsRow.holds Tryd.pinned (OpenSpec.ofChange crcAddsWrong)

/-- 'bargatelaw02.CrcBursts': WHATEVER THE INPUT: true; the input reads as it did. -/
def crcBurstsSpec : ChangeSpec := { name := "crcBursts", fn := fun _ => fun
  | [d1, d2, d3] => { results := [.lit (.bool true)], args := [d1, d2, d3] }
  | _ => none }
def crcBurstsRow : OpenClaim := { program := "ytjoejbdgiepdcaadoor", sum := "13752478a139216bb41651e7eec5baaa79a4946d0e84b24b22c2c5345b9d73f3", func := "bargate/bargatelaw02.CrcBursts", spec := "crcBursts", named := ["bargate/crc.halfSums"], apart := false, laid := [("bargate/crc.halfSums", laid_bargate_crc_halfSums)] }
def CrcBurstsSaid : Prop := crcBurstsRow.holds Tryd.pinned (OpenSpec.ofChange crcBurstsSpec)

/-- ITS FALSE NEIGHBOUR: 'it returns false'. Refute it at one input. -/
def crcBurstsWrong : ChangeSpec := { name := "crcBursts", fn := fun _ => fun
  | [d1, d2, d3] => { results := [.lit (.bool false)], args := [d1, d2, d3] }
  | _ => none }
def CrcBurstsWrongFalsely : Prop := crcBurstsRow.holds Tryd.pinned (OpenSpec.ofChange crcBurstsWrong)

/-- 'bargatetop.WholeSeals': WHATEVER THE INPUT: true; the input reads as it did. -/
def wholeSealsSpec : ChangeSpec := { name := "wholeSeals", fn := fun _ => fun
  | [d1, d2] => { results := [.lit (.bool true)], args := [d1, d2] }
  | _ => none }
def wholeSealsRow : OpenClaim := { program := "ytjoejbdgiepdcaadoor", sum := "13752478a139216bb41651e7eec5baaa79a4946d0e84b24b22c2c5345b9d73f3", func := "bargate/bargatetop.WholeSeals", spec := "wholeSeals", named := ["bargate/crc.halfSums"], apart := false, laid := [("bargate/crc.halfSums", laid_bargate_crc_halfSums)] }
def WholeSealsSaid : Prop := wholeSealsRow.holds Tryd.pinned (OpenSpec.ofChange wholeSealsSpec)

/-- ITS FALSE NEIGHBOUR: 'it returns false'. Refute it at one input. -/
def wholeSealsWrong : ChangeSpec := { name := "wholeSeals", fn := fun _ => fun
  | [d1, d2] => { results := [.lit (.bool false)], args := [d1, d2] }
  | _ => none }
def WholeSealsWrongFalsely : Prop := wholeSealsRow.holds Tryd.pinned (OpenSpec.ofChange wholeSealsWrong)

/- THE SECOND FORM. 'bulk': how many values and letters a reading holds, each counted each time it is reached (what is shared counts as often as it is met; a slice's spare places count too). A statement '..UptoSaid' is the law's where the arguments, and the package variables that the reading takes, are together of bulk at most 1048576: NARROWER than '..Said'. Prove '..Said' where nothing that the law and all that it calls make is longer than what came in: it says more and counts as full. Else prove '..UptoSaid'. A law counts once. -/
mutual
def uptoBulk {H : Type} : DataW H → Nat
  | .lit (.string bytes) => bytes.length + 1
  | .lit _ => 1
  | .nil => 1
  | .ptr d => uptoBulk d + 1
  | .slice elems spare => uptoBulkAll elems + uptoBulkAll spare + 1
  | .agg parts => uptoBulkAll parts + 1
  | .iface _ d => uptoBulk d + 1
  | .map entries => uptoBulkEntries entries + 1
  | .held _ => 1
def uptoBulkAll {H : Type} : List (DataW H) → Nat
  | [] => 0
  | d :: r => uptoBulk d + uptoBulkAll r
def uptoBulkEntries {H : Type} : List (Lit × DataW H) → Nat
  | [] => 0
  | x :: r => uptoBulkEntry x + uptoBulkEntries r
def uptoBulkEntry {H : Type} : Lit × DataW H → Nat
  | (.string bytes, d) => bytes.length + uptoBulk d + 1
  | (_, d) => uptoBulk d + 1
 end
def uptoSmall : (H : Type) → List (DataW H) → Bool := fun _ ds => decide (uptoBulkAll ds ≤ 1048576)
def OpenSpec.upto (s : _root_.Go.ChangeSpec) : _root_.Go.OpenSpec := { _root_.Go.OpenSpec.ofChange s with cond := some uptoSmall }

/-- 'bargatelaw02.CrcSums', WHERE WHAT IT READS IS OF BULK AT MOST 1048576: true; the input reads as it did. -/
def crcSumsUptoRow : OpenClaim := { program := "ytjoejbdgiepdcaadoor", sum := "13752478a139216bb41651e7eec5baaa79a4946d0e84b24b22c2c5345b9d73f3", func := "bargate/bargatelaw02.CrcSums", spec := "crcSums", named := ["bargate/crc.halfSums"], apart := false, laid := [("bargate/crc.halfSums", laid_bargate_crc_halfSums)], narrowed := true }
def CrcSumsUptoSaid : Prop := crcSumsUptoRow.holds Tryd.pinned (OpenSpec.upto crcSumsSpec)

/-- 'bargatelaw02.CrcSeals', WHERE WHAT IT READS IS OF BULK AT MOST 1048576: true; the input reads as it did. -/
def crcSealsUptoRow : OpenClaim := { program := "ytjoejbdgiepdcaadoor", sum := "13752478a139216bb41651e7eec5baaa79a4946d0e84b24b22c2c5345b9d73f3", func := "bargate/bargatelaw02.CrcSeals", spec := "crcSeals", named := ["bargate/crc.halfSums"], apart := false, laid := [("bargate/crc.halfSums", laid_bargate_crc_halfSums)], narrowed := true }
def CrcSealsUptoSaid : Prop := crcSealsUptoRow.holds Tryd.pinned (OpenSpec.upto crcSealsSpec)

/-- 'bargatelaw02.CrcOpens', WHERE WHAT IT READS IS OF BULK AT MOST 1048576: true; the input reads as it did. -/
def crcOpensUptoRow : OpenClaim := { program := "ytjoejbdgiepdcaadoor", sum := "13752478a139216bb41651e7eec5baaa79a4946d0e84b24b22c2c5345b9d73f3", func := "bargate/bargatelaw02.CrcOpens", spec := "crcOpens", named := ["bargate/crc.halfSums"], apart := false, laid := [("bargate/crc.halfSums", laid_bargate_crc_halfSums)], narrowed := true }
def CrcOpensUptoSaid : Prop := crcOpensUptoRow.holds Tryd.pinned (OpenSpec.upto crcOpensSpec)

/-- 'bargatelaw02.CrcAdds', WHERE WHAT IT READS IS OF BULK AT MOST 1048576: true; the input reads as it did. -/
def crcAddsUptoRow : OpenClaim := { program := "ytjoejbdgiepdcaadoor", sum := "13752478a139216bb41651e7eec5baaa79a4946d0e84b24b22c2c5345b9d73f3", func := "bargate/bargatelaw02.CrcAdds", spec := "crcAdds", named := ["bargate/crc.halfSums"], apart := false, laid := [("bargate/crc.halfSums", laid_bargate_crc_halfSums)], narrowed := true }
def CrcAddsUptoSaid : Prop := crcAddsUptoRow.holds Tryd.pinned (OpenSpec.upto crcAddsSpec)

/-- 'bargatelaw02.CrcBursts', WHERE WHAT IT READS IS OF BULK AT MOST 1048576: true; the input reads as it did. -/
def crcBurstsUptoRow : OpenClaim := { program := "ytjoejbdgiepdcaadoor", sum := "13752478a139216bb41651e7eec5baaa79a4946d0e84b24b22c2c5345b9d73f3", func := "bargate/bargatelaw02.CrcBursts", spec := "crcBursts", named := ["bargate/crc.halfSums"], apart := false, laid := [("bargate/crc.halfSums", laid_bargate_crc_halfSums)], narrowed := true }
def CrcBurstsUptoSaid : Prop := crcBurstsUptoRow.holds Tryd.pinned (OpenSpec.upto crcBurstsSpec)

/-- 'bargatetop.WholeSeals', WHERE WHAT IT READS IS OF BULK AT MOST 1048576: true; the input reads as it did. -/
def wholeSealsUptoRow : OpenClaim := { program := "ytjoejbdgiepdcaadoor", sum := "13752478a139216bb41651e7eec5baaa79a4946d0e84b24b22c2c5345b9d73f3", func := "bargate/bargatetop.WholeSeals", spec := "wholeSeals", named := ["bargate/crc.halfSums"], apart := false, laid := [("bargate/crc.halfSums", laid_bargate_crc_halfSums)], narrowed := true }
def WholeSealsUptoSaid : Prop := wholeSealsUptoRow.holds Tryd.pinned (OpenSpec.upto wholeSealsSpec)

end Rows
end Go.Proofs.YtjoejbdgiepdcaaDoor
