/-
  No cell of these rows narrows 'for every input' (looked for: loops, veiled, ifaces, maps, wideKeys, modest, calm, conditions, laid).
  DERIVED. THE GIVEN ROWS OF THIS SEAT. 10 by the template 'for every input the law returns true; each argument reads behind the call as it read before'; 0 by the template 'total and deterministic' (their statements: YtmacdghkbmjdmaaTotals.lean).
  GIVEN WITH THE SEED: the statements are not yours to turn. If you find one false, say at which input.
  Laid BY PROGRAM, IN A SANDBOX (cutbox-rows.mjs): the forced cells as the released guide's own fill.sh prints them over the translation 266fcdc54df6b02c… (all of the seat's roots in one cut). By AI agents, Wed Nov 11 2026. No macro, syntax, notation, axiom, sorry.
-/
import Derived.Test.YtmacdghkbmjdmaaChecked
import GoSem.Claim
import GoSem.ClaimJoined
import GoSem.ClaimMapViews
import Derived.JoinedTies
import Derived.KernelRfl
namespace Go.Proofs.Ytmacdghkbmjdmaa
/- THE CELL 'sum', in the pinned program and in every row, IS THE sha256 OF THE DUMP (.gsa) THAT YtmacdghkbmjdmaaProg.lean LOADS. Nothing in Lean hashes anything: it is a label: what it is worth is what the hold of that sum in a sandbox is worth. -/
noncomputable def Try.pinned : Pinned := { name := "ytmacdghkbmjdmaa", sum := "266fcdc54df6b02c1ab3de743c61c6c528d6fdcfeffcf1ce78c3346d86dbd2c7", checked := Try.checked }
namespace Rows
def none {H : Type} : Left H := { results := [], args := [] }

/-- 'bargatelaw15.MeterMarks': WHATEVER THE INPUT: true; the input reads as it did. -/
def meterMarksSpec : ChangeSpec := { name := "meterMarks", fn := fun _ => fun
  | [d1, d2] => { results := [.lit (.bool true)], args := [d1, d2] }
  | _ => none }
def meterMarksRow : OpenClaim := { program := "ytmacdghkbmjdmaa", sum := "266fcdc54df6b02c1ab3de743c61c6c528d6fdcfeffcf1ce78c3346d86dbd2c7", func := "bargate/bargatelaw15.MeterMarks", spec := "meterMarks", apart := false }
def MeterMarksSaid : Prop := meterMarksRow.holds Try.pinned (OpenSpec.ofChange meterMarksSpec)

/-- ITS FALSE NEIGHBOUR: 'it returns false'. Refute it at one input. -/
def meterMarksWrong : ChangeSpec := { name := "meterMarks", fn := fun _ => fun
  | [d1, d2] => { results := [.lit (.bool false)], args := [d1, d2] }
  | _ => none }
def MeterMarksWrongFalsely : Prop := meterMarksRow.holds Try.pinned (OpenSpec.ofChange meterMarksWrong)

/-- 'bargatelaw15.MeterBounds': WHATEVER THE INPUT: true; the input reads as it did. -/
def meterBoundsSpec : ChangeSpec := { name := "meterBounds", fn := fun _ => fun
  | [d1, d2] => { results := [.lit (.bool true)], args := [d1, d2] }
  | _ => none }
def meterBoundsRow : OpenClaim := { program := "ytmacdghkbmjdmaa", sum := "266fcdc54df6b02c1ab3de743c61c6c528d6fdcfeffcf1ce78c3346d86dbd2c7", func := "bargate/bargatelaw15.MeterBounds", spec := "meterBounds", apart := false }
def MeterBoundsSaid : Prop := meterBoundsRow.holds Try.pinned (OpenSpec.ofChange meterBoundsSpec)

/-- ITS FALSE NEIGHBOUR: 'it returns false'. Refute it at one input. -/
def meterBoundsWrong : ChangeSpec := { name := "meterBounds", fn := fun _ => fun
  | [d1, d2] => { results := [.lit (.bool false)], args := [d1, d2] }
  | _ => none }
def MeterBoundsWrongFalsely : Prop := meterBoundsRow.holds Try.pinned (OpenSpec.ofChange meterBoundsWrong)

/-- 'bargatelaw15.MeterChecks': WHATEVER THE INPUT: true; the input reads as it did. -/
def meterChecksSpec : ChangeSpec := { name := "meterChecks", fn := fun _ => fun
  | [d] => { results := [.lit (.bool true)], args := [d] }
  | _ => none }
def meterChecksRow : OpenClaim := { program := "ytmacdghkbmjdmaa", sum := "266fcdc54df6b02c1ab3de743c61c6c528d6fdcfeffcf1ce78c3346d86dbd2c7", func := "bargate/bargatelaw15.MeterChecks", spec := "meterChecks", apart := false }
def MeterChecksSaid : Prop := meterChecksRow.holds Try.pinned (OpenSpec.ofChange meterChecksSpec)

/-- ITS FALSE NEIGHBOUR: 'it returns false'. Refute it at one input. -/
def meterChecksWrong : ChangeSpec := { name := "meterChecks", fn := fun _ => fun
  | [d] => { results := [.lit (.bool false)], args := [d] }
  | _ => none }
def MeterChecksWrongFalsely : Prop := meterChecksRow.holds Try.pinned (OpenSpec.ofChange meterChecksWrong)

/-- 'bargatelaw15.MeterBack': WHATEVER THE INPUT: true; the input reads as it did. -/
def meterBackSpec : ChangeSpec := { name := "meterBack", fn := fun _ => fun
  | [d1, d2, d3] => { results := [.lit (.bool true)], args := [d1, d2, d3] }
  | _ => none }
def meterBackRow : OpenClaim := { program := "ytmacdghkbmjdmaa", sum := "266fcdc54df6b02c1ab3de743c61c6c528d6fdcfeffcf1ce78c3346d86dbd2c7", func := "bargate/bargatelaw15.MeterBack", spec := "meterBack", apart := false }
def MeterBackSaid : Prop := meterBackRow.holds Try.pinned (OpenSpec.ofChange meterBackSpec)

/-- ITS FALSE NEIGHBOUR: 'it returns false'. Refute it at one input. -/
def meterBackWrong : ChangeSpec := { name := "meterBack", fn := fun _ => fun
  | [d1, d2, d3] => { results := [.lit (.bool false)], args := [d1, d2, d3] }
  | _ => none }
def MeterBackWrongFalsely : Prop := meterBackRow.holds Try.pinned (OpenSpec.ofChange meterBackWrong)

/-- 'bargatelaw15.MeterSteady': WHATEVER THE INPUT: true; the input reads as it did. -/
def meterSteadySpec : ChangeSpec := { name := "meterSteady", fn := fun _ => fun
  | [d1, d2, d3] => { results := [.lit (.bool true)], args := [d1, d2, d3] }
  | _ => none }
def meterSteadyRow : OpenClaim := { program := "ytmacdghkbmjdmaa", sum := "266fcdc54df6b02c1ab3de743c61c6c528d6fdcfeffcf1ce78c3346d86dbd2c7", func := "bargate/bargatelaw15.MeterSteady", spec := "meterSteady", apart := false }
def MeterSteadySaid : Prop := meterSteadyRow.holds Try.pinned (OpenSpec.ofChange meterSteadySpec)

/-- ITS FALSE NEIGHBOUR: 'it returns false'. Refute it at one input. -/
def meterSteadyWrong : ChangeSpec := { name := "meterSteady", fn := fun _ => fun
  | [d1, d2, d3] => { results := [.lit (.bool false)], args := [d1, d2, d3] }
  | _ => none }
def MeterSteadyWrongFalsely : Prop := meterSteadyRow.holds Try.pinned (OpenSpec.ofChange meterSteadyWrong)

/-- 'bargatelaw16.GateStates': WHATEVER THE INPUT: true; the input reads as it did. -/
def gateStatesSpec : ChangeSpec := { name := "gateStates", fn := fun _ => fun
  | [d1, d2] => { results := [.lit (.bool true)], args := [d1, d2] }
  | _ => none }
def gateStatesRow : OpenClaim := { program := "ytmacdghkbmjdmaa", sum := "266fcdc54df6b02c1ab3de743c61c6c528d6fdcfeffcf1ce78c3346d86dbd2c7", func := "bargate/bargatelaw16.GateStates", spec := "gateStates", unfollowed := true, recurses := true, apart := false }
def GateStatesSaid : Prop := gateStatesRow.holds Try.pinned (OpenSpec.ofChange gateStatesSpec)

/-- ITS FALSE NEIGHBOUR: 'it returns false'. Refute it at one input. -/
def gateStatesWrong : ChangeSpec := { name := "gateStates", fn := fun _ => fun
  | [d1, d2] => { results := [.lit (.bool false)], args := [d1, d2] }
  | _ => none }
def GateStatesWrongFalsely : Prop := gateStatesRow.holds Try.pinned (OpenSpec.ofChange gateStatesWrong)

/-- 'bargatelaw16.GateUntil': WHATEVER THE INPUT: true; the input reads as it did. -/
def gateUntilSpec : ChangeSpec := { name := "gateUntil", fn := fun _ => fun
  | [d1, d2, d3] => { results := [.lit (.bool true)], args := [d1, d2, d3] }
  | _ => none }
def gateUntilRow : OpenClaim := { program := "ytmacdghkbmjdmaa", sum := "266fcdc54df6b02c1ab3de743c61c6c528d6fdcfeffcf1ce78c3346d86dbd2c7", func := "bargate/bargatelaw16.GateUntil", spec := "gateUntil", unfollowed := true, recurses := true, apart := false }
def GateUntilSaid : Prop := gateUntilRow.holds Try.pinned (OpenSpec.ofChange gateUntilSpec)

/-- ITS FALSE NEIGHBOUR: 'it returns false'. Refute it at one input. -/
def gateUntilWrong : ChangeSpec := { name := "gateUntil", fn := fun _ => fun
  | [d1, d2, d3] => { results := [.lit (.bool false)], args := [d1, d2, d3] }
  | _ => none }
def GateUntilWrongFalsely : Prop := gateUntilRow.holds Try.pinned (OpenSpec.ofChange gateUntilWrong)

/-- 'bargatelaw16.GateStarts': WHATEVER THE INPUT: true; the input reads as it did. -/
def gateStartsSpec : ChangeSpec := { name := "gateStarts", fn := fun _ => fun
  | [d1, d2] => { results := [.lit (.bool true)], args := [d1, d2] }
  | _ => none }
def gateStartsRow : OpenClaim := { program := "ytmacdghkbmjdmaa", sum := "266fcdc54df6b02c1ab3de743c61c6c528d6fdcfeffcf1ce78c3346d86dbd2c7", func := "bargate/bargatelaw16.GateStarts", spec := "gateStarts", unfollowed := true, recurses := true, apart := false }
def GateStartsSaid : Prop := gateStartsRow.holds Try.pinned (OpenSpec.ofChange gateStartsSpec)

/-- ITS FALSE NEIGHBOUR: 'it returns false'. Refute it at one input. -/
def gateStartsWrong : ChangeSpec := { name := "gateStarts", fn := fun _ => fun
  | [d1, d2] => { results := [.lit (.bool false)], args := [d1, d2] }
  | _ => none }
def GateStartsWrongFalsely : Prop := gateStartsRow.holds Try.pinned (OpenSpec.ofChange gateStartsWrong)

/-- 'bargatelaw16.GateChecks': WHATEVER THE INPUT: true; the input reads as it did. -/
def gateChecksSpec : ChangeSpec := { name := "gateChecks", fn := fun _ => fun
  | [d] => { results := [.lit (.bool true)], args := [d] }
  | _ => none }
def gateChecksRow : OpenClaim := { program := "ytmacdghkbmjdmaa", sum := "266fcdc54df6b02c1ab3de743c61c6c528d6fdcfeffcf1ce78c3346d86dbd2c7", func := "bargate/bargatelaw16.GateChecks", spec := "gateChecks", unfollowed := true, recurses := true, apart := false }
def GateChecksSaid : Prop := gateChecksRow.holds Try.pinned (OpenSpec.ofChange gateChecksSpec)

/-- ITS FALSE NEIGHBOUR: 'it returns false'. Refute it at one input. -/
def gateChecksWrong : ChangeSpec := { name := "gateChecks", fn := fun _ => fun
  | [d] => { results := [.lit (.bool false)], args := [d] }
  | _ => none }
def GateChecksWrongFalsely : Prop := gateChecksRow.holds Try.pinned (OpenSpec.ofChange gateChecksWrong)

/-- 'bargatetop.WholeWindows': WHATEVER THE INPUT: true; the input reads as it did. -/
def wholeWindowsSpec : ChangeSpec := { name := "wholeWindows", fn := fun _ => fun
  | [d1, d2, d3] => { results := [.lit (.bool true)], args := [d1, d2, d3] }
  | _ => none }
def wholeWindowsRow : OpenClaim := { program := "ytmacdghkbmjdmaa", sum := "266fcdc54df6b02c1ab3de743c61c6c528d6fdcfeffcf1ce78c3346d86dbd2c7", func := "bargate/bargatetop.WholeWindows", spec := "wholeWindows", unfollowed := true, recurses := true, apart := false }
def WholeWindowsSaid : Prop := wholeWindowsRow.holds Try.pinned (OpenSpec.ofChange wholeWindowsSpec)

/-- ITS FALSE NEIGHBOUR: 'it returns false'. Refute it at one input. -/
def wholeWindowsWrong : ChangeSpec := { name := "wholeWindows", fn := fun _ => fun
  | [d1, d2, d3] => { results := [.lit (.bool false)], args := [d1, d2, d3] }
  | _ => none }
def WholeWindowsWrongFalsely : Prop := wholeWindowsRow.holds Try.pinned (OpenSpec.ofChange wholeWindowsWrong)

/- THE SECOND FORM. 'bulk': how many values and letters a reading holds, each counted each time it is reached (what is shared counts as often as it is met; a slice's spare places count too). A statement '..UptoSaid' is the law's where the arguments, and the package variables that the reading takes, are together of bulk at most 1048576: NARROWER than '..Said'. Prove '..Said' where nothing that the law and all that it calls make is longer than what came in: it says more and counts as full. Else prove '..UptoSaid'. A law counts once. -/
mutual
def uptoBulk {H : Type} : DataW H → Nat
  | .lit (.string bytes) => bytes.length + 1
  | .lit _ => 1
  | .nil => 1
  | .ptr d => uptoBulk d + 1
  | .slice elems spare => uptoBulkAll elems + uptoBulkAll spare + 1
  | .agg parts => uptoBulkAll parts + 1
  | .iface _ d => uptoBulk d + 1
  | .map entries => uptoBulkEntries entries + 1
  | .held _ => 1
def uptoBulkAll {H : Type} : List (DataW H) → Nat
  | [] => 0
  | d :: r => uptoBulk d + uptoBulkAll r
def uptoBulkEntries {H : Type} : List (Lit × DataW H) → Nat
  | [] => 0
  | x :: r => uptoBulkEntry x + uptoBulkEntries r
def uptoBulkEntry {H : Type} : Lit × DataW H → Nat
  | (.string bytes, d) => bytes.length + uptoBulk d + 1
  | (_, d) => uptoBulk d + 1
 end
def uptoSmall : (H : Type) → List (DataW H) → Bool := fun _ ds => decide (uptoBulkAll ds ≤ 1048576)
def OpenSpec.upto (s : _root_.Go.ChangeSpec) : _root_.Go.OpenSpec := { _root_.Go.OpenSpec.ofChange s with cond := some uptoSmall }

/-- 'bargatelaw15.MeterMarks', WHERE WHAT IT READS IS OF BULK AT MOST 1048576: true; the input reads as it did. -/
def meterMarksUptoRow : OpenClaim := { program := "ytmacdghkbmjdmaa", sum := "266fcdc54df6b02c1ab3de743c61c6c528d6fdcfeffcf1ce78c3346d86dbd2c7", func := "bargate/bargatelaw15.MeterMarks", spec := "meterMarks", apart := false, narrowed := true }
def MeterMarksUptoSaid : Prop := meterMarksUptoRow.holds Try.pinned (OpenSpec.upto meterMarksSpec)

/-- 'bargatelaw15.MeterBounds', WHERE WHAT IT READS IS OF BULK AT MOST 1048576: true; the input reads as it did. -/
def meterBoundsUptoRow : OpenClaim := { program := "ytmacdghkbmjdmaa", sum := "266fcdc54df6b02c1ab3de743c61c6c528d6fdcfeffcf1ce78c3346d86dbd2c7", func := "bargate/bargatelaw15.MeterBounds", spec := "meterBounds", apart := false, narrowed := true }
def MeterBoundsUptoSaid : Prop := meterBoundsUptoRow.holds Try.pinned (OpenSpec.upto meterBoundsSpec)

/-- 'bargatelaw15.MeterChecks', WHERE WHAT IT READS IS OF BULK AT MOST 1048576: true; the input reads as it did. -/
def meterChecksUptoRow : OpenClaim := { program := "ytmacdghkbmjdmaa", sum := "266fcdc54df6b02c1ab3de743c61c6c528d6fdcfeffcf1ce78c3346d86dbd2c7", func := "bargate/bargatelaw15.MeterChecks", spec := "meterChecks", apart := false, narrowed := true }
def MeterChecksUptoSaid : Prop := meterChecksUptoRow.holds Try.pinned (OpenSpec.upto meterChecksSpec)

/-- 'bargatelaw15.MeterBack', WHERE WHAT IT READS IS OF BULK AT MOST 1048576: true; the input reads as it did. -/
def meterBackUptoRow : OpenClaim := { program := "ytmacdghkbmjdmaa", sum := "266fcdc54df6b02c1ab3de743c61c6c528d6fdcfeffcf1ce78c3346d86dbd2c7", func := "bargate/bargatelaw15.MeterBack", spec := "meterBack", apart := false, narrowed := true }
def MeterBackUptoSaid : Prop := meterBackUptoRow.holds Try.pinned (OpenSpec.upto meterBackSpec)

/-- 'bargatelaw15.MeterSteady', WHERE WHAT IT READS IS OF BULK AT MOST 1048576: true; the input reads as it did. -/
def meterSteadyUptoRow : OpenClaim := { program := "ytmacdghkbmjdmaa", sum := "266fcdc54df6b02c1ab3de743c61c6c528d6fdcfeffcf1ce78c3346d86dbd2c7", func := "bargate/bargatelaw15.MeterSteady", spec := "meterSteady", apart := false, narrowed := true }
def MeterSteadyUptoSaid : Prop := meterSteadyUptoRow.holds Try.pinned (OpenSpec.upto meterSteadySpec)

/-- 'bargatelaw16.GateStates', WHERE WHAT IT READS IS OF BULK AT MOST 1048576: true; the input reads as it did. -/
def gateStatesUptoRow : OpenClaim := { program := "ytmacdghkbmjdmaa", sum := "266fcdc54df6b02c1ab3de743c61c6c528d6fdcfeffcf1ce78c3346d86dbd2c7", func := "bargate/bargatelaw16.GateStates", spec := "gateStates", unfollowed := true, recurses := true, apart := false, narrowed := true }
def GateStatesUptoSaid : Prop := gateStatesUptoRow.holds Try.pinned (OpenSpec.upto gateStatesSpec)

/-- 'bargatelaw16.GateUntil', WHERE WHAT IT READS IS OF BULK AT MOST 1048576: true; the input reads as it did. -/
def gateUntilUptoRow : OpenClaim := { program := "ytmacdghkbmjdmaa", sum := "266fcdc54df6b02c1ab3de743c61c6c528d6fdcfeffcf1ce78c3346d86dbd2c7", func := "bargate/bargatelaw16.GateUntil", spec := "gateUntil", unfollowed := true, recurses := true, apart := false, narrowed := true }
def GateUntilUptoSaid : Prop := gateUntilUptoRow.holds Try.pinned (OpenSpec.upto gateUntilSpec)

/-- 'bargatelaw16.GateStarts', WHERE WHAT IT READS IS OF BULK AT MOST 1048576: true; the input reads as it did. -/
def gateStartsUptoRow : OpenClaim := { program := "ytmacdghkbmjdmaa", sum := "266fcdc54df6b02c1ab3de743c61c6c528d6fdcfeffcf1ce78c3346d86dbd2c7", func := "bargate/bargatelaw16.GateStarts", spec := "gateStarts", unfollowed := true, recurses := true, apart := false, narrowed := true }
def GateStartsUptoSaid : Prop := gateStartsUptoRow.holds Try.pinned (OpenSpec.upto gateStartsSpec)

/-- 'bargatelaw16.GateChecks', WHERE WHAT IT READS IS OF BULK AT MOST 1048576: true; the input reads as it did. -/
def gateChecksUptoRow : OpenClaim := { program := "ytmacdghkbmjdmaa", sum := "266fcdc54df6b02c1ab3de743c61c6c528d6fdcfeffcf1ce78c3346d86dbd2c7", func := "bargate/bargatelaw16.GateChecks", spec := "gateChecks", unfollowed := true, recurses := true, apart := false, narrowed := true }
def GateChecksUptoSaid : Prop := gateChecksUptoRow.holds Try.pinned (OpenSpec.upto gateChecksSpec)

/-- 'bargatetop.WholeWindows', WHERE WHAT IT READS IS OF BULK AT MOST 1048576: true; the input reads as it did. -/
def wholeWindowsUptoRow : OpenClaim := { program := "ytmacdghkbmjdmaa", sum := "266fcdc54df6b02c1ab3de743c61c6c528d6fdcfeffcf1ce78c3346d86dbd2c7", func := "bargate/bargatetop.WholeWindows", spec := "wholeWindows", unfollowed := true, recurses := true, apart := false, narrowed := true }
def WholeWindowsUptoSaid : Prop := wholeWindowsUptoRow.holds Try.pinned (OpenSpec.upto wholeWindowsSpec)

end Rows
end Go.Proofs.Ytmacdghkbmjdmaa
