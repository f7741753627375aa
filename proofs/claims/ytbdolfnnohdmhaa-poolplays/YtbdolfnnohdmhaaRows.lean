/-
  No cell of these rows narrows 'for every input' (looked for: loops, veiled, ifaces, maps, wideKeys, modest, calm, conditions, laid).
  DERIVED. THE GIVEN ROWS OF THIS SEAT. 10 by the template 'for every input the law returns true; each argument reads behind the call as it read before'; 0 by the template 'total and deterministic' (their statements: YtbdolfnnohdmhaaTotals.lean).
  GIVEN WITH THE SEED: the statements are not yours to turn. If you find one false, say at which input.
  Laid BY PROGRAM, IN A SANDBOX (cutbox-rows.mjs): the forced cells as the released guide's own fill.sh prints them over the translation 3880422a146176d7… (all of the seat's roots in one cut). By AI agents, Wed Nov 11 2026. No macro, syntax, notation, axiom, sorry.
-/
import Derived.Test.YtbdolfnnohdmhaaChecked
import GoSem.Claim
import GoSem.ClaimJoined
import GoSem.ClaimMapViews
import Derived.JoinedTies
import Derived.KernelRfl
namespace Go.Proofs.Ytbdolfnnohdmhaa
/- THE CELL 'sum', in the pinned program and in every row, IS THE sha256 OF THE DUMP (.gsa) THAT YtbdolfnnohdmhaaProg.lean LOADS. Nothing in Lean hashes anything: it is a label: what it is worth is what the hold of that sum in a sandbox is worth. -/
noncomputable def Try.pinned : Pinned := { name := "ytbdolfnnohdmhaa", sum := "3880422a146176d7958a360a19300984a652169c6d57a6ba32ff9877ece4400d", checked := Try.checked }
namespace Rows
def none {H : Type} : Left H := { results := [], args := [] }

/-- 'bargatelaw05.WireTimes': WHATEVER THE INPUT: true; the input reads as it did. -/
def wireTimesSpec : ChangeSpec := { name := "wireTimes", fn := fun _ => fun
  | [d1, d2] => { results := [.lit (.bool true)], args := [d1, d2] }
  | _ => none }
def wireTimesRow : OpenClaim := { program := "ytbdolfnnohdmhaa", sum := "3880422a146176d7958a360a19300984a652169c6d57a6ba32ff9877ece4400d", func := "bargate/bargatelaw05.WireTimes", spec := "wireTimes", apart := false }
def WireTimesSaid : Prop := wireTimesRow.holds Try.pinned (OpenSpec.ofChange wireTimesSpec)

/-- ITS FALSE NEIGHBOUR: 'it returns false'. Refute it at one input. -/
def wireTimesWrong : ChangeSpec := { name := "wireTimes", fn := fun _ => fun
  | [d1, d2] => { results := [.lit (.bool false)], args := [d1, d2] }
  | _ => none }
def WireTimesWrongFalsely : Prop := wireTimesRow.holds Try.pinned (OpenSpec.ofChange wireTimesWrong)

/-- 'bargatelaw05.WireAll': WHATEVER THE INPUT: true; the input reads as it did. -/
def wireAllSpec : ChangeSpec := { name := "wireAll", fn := fun _ => fun
  | [d1, d2] => { results := [.lit (.bool true)], args := [d1, d2] }
  | _ => none }
def wireAllRow : OpenClaim := { program := "ytbdolfnnohdmhaa", sum := "3880422a146176d7958a360a19300984a652169c6d57a6ba32ff9877ece4400d", func := "bargate/bargatelaw05.WireAll", spec := "wireAll", apart := false }
def WireAllSaid : Prop := wireAllRow.holds Try.pinned (OpenSpec.ofChange wireAllSpec)

/-- ITS FALSE NEIGHBOUR: 'it returns false'. Refute it at one input. -/
def wireAllWrong : ChangeSpec := { name := "wireAll", fn := fun _ => fun
  | [d1, d2] => { results := [.lit (.bool false)], args := [d1, d2] }
  | _ => none }
def WireAllWrongFalsely : Prop := wireAllRow.holds Try.pinned (OpenSpec.ofChange wireAllWrong)

/-- 'bargatelaw05.WireFits': WHATEVER THE INPUT: true; the input reads as it did. -/
def wireFitsSpec : ChangeSpec := { name := "wireFits", fn := fun _ => fun
  | [d1, d2] => { results := [.lit (.bool true)], args := [d1, d2] }
  | _ => none }
def wireFitsRow : OpenClaim := { program := "ytbdolfnnohdmhaa", sum := "3880422a146176d7958a360a19300984a652169c6d57a6ba32ff9877ece4400d", func := "bargate/bargatelaw05.WireFits", spec := "wireFits", apart := false }
def WireFitsSaid : Prop := wireFitsRow.holds Try.pinned (OpenSpec.ofChange wireFitsSpec)

/-- ITS FALSE NEIGHBOUR: 'it returns false'. Refute it at one input. -/
def wireFitsWrong : ChangeSpec := { name := "wireFits", fn := fun _ => fun
  | [d1, d2] => { results := [.lit (.bool false)], args := [d1, d2] }
  | _ => none }
def WireFitsWrongFalsely : Prop := wireFitsRow.holds Try.pinned (OpenSpec.ofChange wireFitsWrong)

/-- 'bargatelaw05.WireClocks': WHATEVER THE INPUT: true; the input reads as it did. -/
def wireClocksSpec : ChangeSpec := { name := "wireClocks", fn := fun _ => fun
  | [d1, d2] => { results := [.lit (.bool true)], args := [d1, d2] }
  | _ => none }
def wireClocksRow : OpenClaim := { program := "ytbdolfnnohdmhaa", sum := "3880422a146176d7958a360a19300984a652169c6d57a6ba32ff9877ece4400d", func := "bargate/bargatelaw05.WireClocks", spec := "wireClocks", apart := false }
def WireClocksSaid : Prop := wireClocksRow.holds Try.pinned (OpenSpec.ofChange wireClocksSpec)

/-- ITS FALSE NEIGHBOUR: 'it returns false'. Refute it at one input. -/
def wireClocksWrong : ChangeSpec := { name := "wireClocks", fn := fun _ => fun
  | [d1, d2] => { results := [.lit (.bool false)], args := [d1, d2] }
  | _ => none }
def WireClocksWrongFalsely : Prop := wireClocksRow.holds Try.pinned (OpenSpec.ofChange wireClocksWrong)

/-- 'bargatelaw05.WireCredits': WHATEVER THE INPUT: true; the input reads as it did. -/
def wireCreditsSpec : ChangeSpec := { name := "wireCredits", fn := fun _ => fun
  | [d1, d2, d3] => { results := [.lit (.bool true)], args := [d1, d2, d3] }
  | _ => none }
def wireCreditsRow : OpenClaim := { program := "ytbdolfnnohdmhaa", sum := "3880422a146176d7958a360a19300984a652169c6d57a6ba32ff9877ece4400d", func := "bargate/bargatelaw05.WireCredits", spec := "wireCredits", apart := false }
def WireCreditsSaid : Prop := wireCreditsRow.holds Try.pinned (OpenSpec.ofChange wireCreditsSpec)

/-- ITS FALSE NEIGHBOUR: 'it returns false'. Refute it at one input. -/
def wireCreditsWrong : ChangeSpec := { name := "wireCredits", fn := fun _ => fun
  | [d1, d2, d3] => { results := [.lit (.bool false)], args := [d1, d2, d3] }
  | _ => none }
def WireCreditsWrongFalsely : Prop := wireCreditsRow.holds Try.pinned (OpenSpec.ofChange wireCreditsWrong)

/-- 'bargatelaw05.WireSpeeds': WHATEVER THE INPUT: true; the input reads as it did. -/
def wireSpeedsSpec : ChangeSpec := { name := "wireSpeeds", fn := fun _ => fun
  | [d] => { results := [.lit (.bool true)], args := [d] }
  | _ => none }
def wireSpeedsRow : OpenClaim := { program := "ytbdolfnnohdmhaa", sum := "3880422a146176d7958a360a19300984a652169c6d57a6ba32ff9877ece4400d", func := "bargate/bargatelaw05.WireSpeeds", spec := "wireSpeeds", apart := false }
def WireSpeedsSaid : Prop := wireSpeedsRow.holds Try.pinned (OpenSpec.ofChange wireSpeedsSpec)

/-- ITS FALSE NEIGHBOUR: 'it returns false'. Refute it at one input. -/
def wireSpeedsWrong : ChangeSpec := { name := "wireSpeeds", fn := fun _ => fun
  | [d] => { results := [.lit (.bool false)], args := [d] }
  | _ => none }
def WireSpeedsWrongFalsely : Prop := wireSpeedsRow.holds Try.pinned (OpenSpec.ofChange wireSpeedsWrong)

/-- 'bargatelaw06.PoolPlays': WHATEVER THE INPUT: true; the input reads as it did. -/
def poolPlaysSpec : ChangeSpec := { name := "poolPlays", fn := fun _ => fun
  | [d1, d2] => { results := [.lit (.bool true)], args := [d1, d2] }
  | _ => none }
def poolPlaysRow : OpenClaim := { program := "ytbdolfnnohdmhaa", sum := "3880422a146176d7958a360a19300984a652169c6d57a6ba32ff9877ece4400d", func := "bargate/bargatelaw06.PoolPlays", spec := "poolPlays", apart := false }
def PoolPlaysSaid : Prop := poolPlaysRow.holds Try.pinned (OpenSpec.ofChange poolPlaysSpec)

/-- ITS FALSE NEIGHBOUR: 'it returns false'. Refute it at one input. -/
def poolPlaysWrong : ChangeSpec := { name := "poolPlays", fn := fun _ => fun
  | [d1, d2] => { results := [.lit (.bool false)], args := [d1, d2] }
  | _ => none }
def PoolPlaysWrongFalsely : Prop := poolPlaysRow.holds Try.pinned (OpenSpec.ofChange poolPlaysWrong)

/-- 'bargatelaw06.PoolOwn': WHATEVER THE INPUT: true; the input reads as it did. -/
def poolOwnSpec : ChangeSpec := { name := "poolOwn", fn := fun _ => fun
  | [d] => { results := [.lit (.bool true)], args := [d] }
  | _ => none }
def poolOwnRow : OpenClaim := { program := "ytbdolfnnohdmhaa", sum := "3880422a146176d7958a360a19300984a652169c6d57a6ba32ff9877ece4400d", func := "bargate/bargatelaw06.PoolOwn", spec := "poolOwn", apart := false }
def PoolOwnSaid : Prop := poolOwnRow.holds Try.pinned (OpenSpec.ofChange poolOwnSpec)

/-- ITS FALSE NEIGHBOUR: 'it returns false'. Refute it at one input. -/
def poolOwnWrong : ChangeSpec := { name := "poolOwn", fn := fun _ => fun
  | [d] => { results := [.lit (.bool false)], args := [d] }
  | _ => none }
def PoolOwnWrongFalsely : Prop := poolOwnRow.holds Try.pinned (OpenSpec.ofChange poolOwnWrong)

/-- 'bargatelaw06.PoolFull': WHATEVER THE INPUT: true; the input reads as it did. -/
def poolFullSpec : ChangeSpec := { name := "poolFull", fn := fun _ => fun
  | [d1, d2] => { results := [.lit (.bool true)], args := [d1, d2] }
  | _ => none }
def poolFullRow : OpenClaim := { program := "ytbdolfnnohdmhaa", sum := "3880422a146176d7958a360a19300984a652169c6d57a6ba32ff9877ece4400d", func := "bargate/bargatelaw06.PoolFull", spec := "poolFull", apart := false }
def PoolFullSaid : Prop := poolFullRow.holds Try.pinned (OpenSpec.ofChange poolFullSpec)

/-- ITS FALSE NEIGHBOUR: 'it returns false'. Refute it at one input. -/
def poolFullWrong : ChangeSpec := { name := "poolFull", fn := fun _ => fun
  | [d1, d2] => { results := [.lit (.bool false)], args := [d1, d2] }
  | _ => none }
def PoolFullWrongFalsely : Prop := poolFullRow.holds Try.pinned (OpenSpec.ofChange poolFullWrong)

/-- 'bargatelaw06.PoolHolds': WHATEVER THE INPUT: true; the input reads as it did. -/
def poolHoldsSpec : ChangeSpec := { name := "poolHolds", fn := fun _ => fun
  | [d1, d2] => { results := [.lit (.bool true)], args := [d1, d2] }
  | _ => none }
def poolHoldsRow : OpenClaim := { program := "ytbdolfnnohdmhaa", sum := "3880422a146176d7958a360a19300984a652169c6d57a6ba32ff9877ece4400d", func := "bargate/bargatelaw06.PoolHolds", spec := "poolHolds", apart := false }
def PoolHoldsSaid : Prop := poolHoldsRow.holds Try.pinned (OpenSpec.ofChange poolHoldsSpec)

/-- ITS FALSE NEIGHBOUR: 'it returns false'. Refute it at one input. -/
def poolHoldsWrong : ChangeSpec := { name := "poolHolds", fn := fun _ => fun
  | [d1, d2] => { results := [.lit (.bool false)], args := [d1, d2] }
  | _ => none }
def PoolHoldsWrongFalsely : Prop := poolHoldsRow.holds Try.pinned (OpenSpec.ofChange poolHoldsWrong)

/- THE SECOND FORM. 'bulk': how many values and letters a reading holds, each counted each time it is reached (what is shared counts as often as it is met; a slice's spare places count too). A statement '..UptoSaid' is the law's where the arguments, and the package variables that the reading takes, are together of bulk at most 1048576: NARROWER than '..Said'. Prove '..Said' where nothing that the law and all that it calls make is longer than what came in: it says more and counts as full. Else prove '..UptoSaid'. A law counts once. -/
mutual
def uptoBulk {H : Type} : DataW H → Nat
  | .lit (.string bytes) => bytes.length + 1
  | .lit _ => 1
  | .nil => 1
  | .ptr d => uptoBulk d + 1
  | .slice elems spare => uptoBulkAll elems + uptoBulkAll spare + 1
  | .agg parts => uptoBulkAll parts + 1
  | .iface _ d => uptoBulk d + 1
  | .map entries => uptoBulkEntries entries + 1
  | .held _ => 1
def uptoBulkAll {H : Type} : List (DataW H) → Nat
  | [] => 0
  | d :: r => uptoBulk d + uptoBulkAll r
def uptoBulkEntries {H : Type} : List (Lit × DataW H) → Nat
  | [] => 0
  | x :: r => uptoBulkEntry x + uptoBulkEntries r
def uptoBulkEntry {H : Type} : Lit × DataW H → Nat
  | (.string bytes, d) => bytes.length + uptoBulk d + 1
  | (_, d) => uptoBulk d + 1
 end
def uptoSmall : (H : Type) → List (DataW H) → Bool := fun _ ds => decide (uptoBulkAll ds ≤ 1048576)
def OpenSpec.upto (s : _root_.Go.ChangeSpec) : _root_.Go.OpenSpec := { _root_.Go.OpenSpec.ofChange s with cond := some uptoSmall }

/-- 'bargatelaw05.WireTimes', WHERE WHAT IT READS IS OF BULK AT MOST 1048576: true; the input reads as it did. -/
def wireTimesUptoRow : OpenClaim := { program := "ytbdolfnnohdmhaa", sum := "3880422a146176d7958a360a19300984a652169c6d57a6ba32ff9877ece4400d", func := "bargate/bargatelaw05.WireTimes", spec := "wireTimes", apart := false, narrowed := true }
def WireTimesUptoSaid : Prop := wireTimesUptoRow.holds Try.pinned (OpenSpec.upto wireTimesSpec)

/-- 'bargatelaw05.WireAll', WHERE WHAT IT READS IS OF BULK AT MOST 1048576: true; the input reads as it did. -/
def wireAllUptoRow : OpenClaim := { program := "ytbdolfnnohdmhaa", sum := "3880422a146176d7958a360a19300984a652169c6d57a6ba32ff9877ece4400d", func := "bargate/bargatelaw05.WireAll", spec := "wireAll", apart := false, narrowed := true }
def WireAllUptoSaid : Prop := wireAllUptoRow.holds Try.pinned (OpenSpec.upto wireAllSpec)

/-- 'bargatelaw05.WireFits', WHERE WHAT IT READS IS OF BULK AT MOST 1048576: true; the input reads as it did. -/
def wireFitsUptoRow : OpenClaim := { program := "ytbdolfnnohdmhaa", sum := "3880422a146176d7958a360a19300984a652169c6d57a6ba32ff9877ece4400d", func := "bargate/bargatelaw05.WireFits", spec := "wireFits", apart := false, narrowed := true }
def WireFitsUptoSaid : Prop := wireFitsUptoRow.holds Try.pinned (OpenSpec.upto wireFitsSpec)

/-- 'bargatelaw05.WireClocks', WHERE WHAT IT READS IS OF BULK AT MOST 1048576: true; the input reads as it did. -/
def wireClocksUptoRow : OpenClaim := { program := "ytbdolfnnohdmhaa", sum := "3880422a146176d7958a360a19300984a652169c6d57a6ba32ff9877ece4400d", func := "bargate/bargatelaw05.WireClocks", spec := "wireClocks", apart := false, narrowed := true }
def WireClocksUptoSaid : Prop := wireClocksUptoRow.holds Try.pinned (OpenSpec.upto wireClocksSpec)

/-- 'bargatelaw05.WireCredits', WHERE WHAT IT READS IS OF BULK AT MOST 1048576: true; the input reads as it did. -/
def wireCreditsUptoRow : OpenClaim := { program := "ytbdolfnnohdmhaa", sum := "3880422a146176d7958a360a19300984a652169c6d57a6ba32ff9877ece4400d", func := "bargate/bargatelaw05.WireCredits", spec := "wireCredits", apart := false, narrowed := true }
def WireCreditsUptoSaid : Prop := wireCreditsUptoRow.holds Try.pinned (OpenSpec.upto wireCreditsSpec)

/-- 'bargatelaw05.WireSpeeds', WHERE WHAT IT READS IS OF BULK AT MOST 1048576: true; the input reads as it did. -/
def wireSpeedsUptoRow : OpenClaim := { program := "ytbdolfnnohdmhaa", sum := "3880422a146176d7958a360a19300984a652169c6d57a6ba32ff9877ece4400d", func := "bargate/bargatelaw05.WireSpeeds", spec := "wireSpeeds", apart := false, narrowed := true }
def WireSpeedsUptoSaid : Prop := wireSpeedsUptoRow.holds Try.pinned (OpenSpec.upto wireSpeedsSpec)

/-- 'bargatelaw06.PoolPlays', WHERE WHAT IT READS IS OF BULK AT MOST 1048576: true; the input reads as it did. -/
def poolPlaysUptoRow : OpenClaim := { program := "ytbdolfnnohdmhaa", sum := "3880422a146176d7958a360a19300984a652169c6d57a6ba32ff9877ece4400d", func := "bargate/bargatelaw06.PoolPlays", spec := "poolPlays", apart := false, narrowed := true }
def PoolPlaysUptoSaid : Prop := poolPlaysUptoRow.holds Try.pinned (OpenSpec.upto poolPlaysSpec)

/-- 'bargatelaw06.PoolOwn', WHERE WHAT IT READS IS OF BULK AT MOST 1048576: true; the input reads as it did. -/
def poolOwnUptoRow : OpenClaim := { program := "ytbdolfnnohdmhaa", sum := "3880422a146176d7958a360a19300984a652169c6d57a6ba32ff9877ece4400d", func := "bargate/bargatelaw06.PoolOwn", spec := "poolOwn", apart := false, narrowed := true }
def PoolOwnUptoSaid : Prop := poolOwnUptoRow.holds Try.pinned (OpenSpec.upto poolOwnSpec)

/-- 'bargatelaw06.PoolFull', WHERE WHAT IT READS IS OF BULK AT MOST 1048576: true; the input reads as it did. -/
def poolFullUptoRow : OpenClaim := { program := "ytbdolfnnohdmhaa", sum := "3880422a146176d7958a360a19300984a652169c6d57a6ba32ff9877ece4400d", func := "bargate/bargatelaw06.PoolFull", spec := "poolFull", apart := false, narrowed := true }
def PoolFullUptoSaid : Prop := poolFullUptoRow.holds Try.pinned (OpenSpec.upto poolFullSpec)

/-- 'bargatelaw06.PoolHolds', WHERE WHAT IT READS IS OF BULK AT MOST 1048576: true; the input reads as it did. -/
def poolHoldsUptoRow : OpenClaim := { program := "ytbdolfnnohdmhaa", sum := "3880422a146176d7958a360a19300984a652169c6d57a6ba32ff9877ece4400d", func := "bargate/bargatelaw06.PoolHolds", spec := "poolHolds", apart := false, narrowed := true }
def PoolHoldsUptoSaid : Prop := poolHoldsUptoRow.holds Try.pinned (OpenSpec.upto poolHoldsSpec)

end Rows
end Go.Proofs.Ytbdolfnnohdmhaa
