/-
  No cell of these rows narrows 'for every input' (looked for: loops, veiled, ifaces, maps, wideKeys, modest, calm, conditions, laid).
  DERIVED. THE GIVEN ROWS OF THIS SEAT. 10 by the template 'for every input the law returns true; each argument reads behind the call as it read before'; 0 by the template 'total and deterministic' (their statements: YtiahiakllpjliaaTotals.lean).
  GIVEN WITH THE SEED: the statements are not yours to turn. If you find one false, say at which input.
  Laid BY PROGRAM, IN A SANDBOX (cutbox-rows.mjs): the forced cells as the released guide's own fill.sh prints them over the translation 94e6d53e547604d1… (all of the seat's roots in one cut). By AI agents, Wed Nov 11 2026. No macro, syntax, notation, axiom, sorry.
-/
import Derived.Test.YtiahiakllpjliaaChecked
import GoSem.Claim
import GoSem.ClaimJoined
import GoSem.ClaimMapViews
import Derived.JoinedTies
import Derived.KernelRfl
namespace Go.Proofs.Ytiahiakllpjliaa
/- THE CELL 'sum', in the pinned program and in every row, IS THE sha256 OF THE DUMP (.gsa) THAT YtiahiakllpjliaaProg.lean LOADS. Nothing in Lean hashes anything: it is a label: what it is worth is what the hold of that sum in a sandbox is worth. -/
noncomputable def Try.pinned : Pinned := { name := "ytiahiakllpjliaa", sum := "94e6d53e547604d13c933fcf730a5a98f8e7289e61a60f7befa301c7725eec64", checked := Try.checked }
namespace Rows
def none {H : Type} : Left H := { results := [], args := [] }

/-- 'bargatelaw12.FdbPlays': WHATEVER THE INPUT: true; the input reads as it did. -/
def fdbPlaysSpec : ChangeSpec := { name := "fdbPlays", fn := fun _ => fun
  | [d1, d2, d3] => { results := [.lit (.bool true)], args := [d1, d2, d3] }
  | _ => none }
def fdbPlaysRow : OpenClaim := { program := "ytiahiakllpjliaa", sum := "94e6d53e547604d13c933fcf730a5a98f8e7289e61a60f7befa301c7725eec64", func := "bargate/bargatelaw12.FdbPlays", spec := "fdbPlays", unfollowed := true, recurses := true, plainKeys := false, apart := false }
def FdbPlaysSaid : Prop := fdbPlaysRow.holds Try.pinned (OpenSpec.ofChange fdbPlaysSpec)

/-- ITS FALSE NEIGHBOUR: 'it returns false'. Refute it at one input. -/
def fdbPlaysWrong : ChangeSpec := { name := "fdbPlays", fn := fun _ => fun
  | [d1, d2, d3] => { results := [.lit (.bool false)], args := [d1, d2, d3] }
  | _ => none }
def FdbPlaysWrongFalsely : Prop := fdbPlaysRow.holds Try.pinned (OpenSpec.ofChange fdbPlaysWrong)

/-- 'bargatelaw12.FdbApart': WHATEVER THE INPUT: true; the input reads as it did. -/
def fdbApartSpec : ChangeSpec := { name := "fdbApart", fn := fun _ => fun
  | [d1, d2, d3] => { results := [.lit (.bool true)], args := [d1, d2, d3] }
  | _ => none }
def fdbApartRow : OpenClaim := { program := "ytiahiakllpjliaa", sum := "94e6d53e547604d13c933fcf730a5a98f8e7289e61a60f7befa301c7725eec64", func := "bargate/bargatelaw12.FdbApart", spec := "fdbApart", unfollowed := true, recurses := true, plainKeys := false, apart := false }
def FdbApartSaid : Prop := fdbApartRow.holds Try.pinned (OpenSpec.ofChange fdbApartSpec)

/-- ITS FALSE NEIGHBOUR: 'it returns false'. Refute it at one input. -/
def fdbApartWrong : ChangeSpec := { name := "fdbApart", fn := fun _ => fun
  | [d1, d2, d3] => { results := [.lit (.bool false)], args := [d1, d2, d3] }
  | _ => none }
def FdbApartWrongFalsely : Prop := fdbApartRow.holds Try.pinned (OpenSpec.ofChange fdbApartWrong)

/-- 'bargatelaw12.FdbMoves': WHATEVER THE INPUT: true; the input reads as it did. -/
def fdbMovesSpec : ChangeSpec := { name := "fdbMoves", fn := fun _ => fun
  | [d1, d2] => { results := [.lit (.bool true)], args := [d1, d2] }
  | _ => none }
def fdbMovesRow : OpenClaim := { program := "ytiahiakllpjliaa", sum := "94e6d53e547604d13c933fcf730a5a98f8e7289e61a60f7befa301c7725eec64", func := "bargate/bargatelaw12.FdbMoves", spec := "fdbMoves", unfollowed := true, recurses := true, plainKeys := false, apart := false }
def FdbMovesSaid : Prop := fdbMovesRow.holds Try.pinned (OpenSpec.ofChange fdbMovesSpec)

/-- ITS FALSE NEIGHBOUR: 'it returns false'. Refute it at one input. -/
def fdbMovesWrong : ChangeSpec := { name := "fdbMoves", fn := fun _ => fun
  | [d1, d2] => { results := [.lit (.bool false)], args := [d1, d2] }
  | _ => none }
def FdbMovesWrongFalsely : Prop := fdbMovesRow.holds Try.pinned (OpenSpec.ofChange fdbMovesWrong)

/-- 'bargatelaw12.FdbFull': WHATEVER THE INPUT: true; the input reads as it did. -/
def fdbFullSpec : ChangeSpec := { name := "fdbFull", fn := fun _ => fun
  | [d] => { results := [.lit (.bool true)], args := [d] }
  | _ => none }
def fdbFullRow : OpenClaim := { program := "ytiahiakllpjliaa", sum := "94e6d53e547604d13c933fcf730a5a98f8e7289e61a60f7befa301c7725eec64", func := "bargate/bargatelaw12.FdbFull", spec := "fdbFull", unfollowed := true, recurses := true, plainKeys := false, apart := false }
def FdbFullSaid : Prop := fdbFullRow.holds Try.pinned (OpenSpec.ofChange fdbFullSpec)

/-- ITS FALSE NEIGHBOUR: 'it returns false'. Refute it at one input. -/
def fdbFullWrong : ChangeSpec := { name := "fdbFull", fn := fun _ => fun
  | [d] => { results := [.lit (.bool false)], args := [d] }
  | _ => none }
def FdbFullWrongFalsely : Prop := fdbFullRow.holds Try.pinned (OpenSpec.ofChange fdbFullWrong)

/-- 'bargatelaw13.RelayNames': WHATEVER THE INPUT: true; the input reads as it did. -/
def relayNamesSpec : ChangeSpec := { name := "relayNames", fn := fun _ => fun
  | [d] => { results := [.lit (.bool true)], args := [d] }
  | _ => none }
def relayNamesRow : OpenClaim := { program := "ytiahiakllpjliaa", sum := "94e6d53e547604d13c933fcf730a5a98f8e7289e61a60f7befa301c7725eec64", func := "bargate/bargatelaw13.RelayNames", spec := "relayNames", unfollowed := true, recurses := true, plainKeys := false, apart := false }
def RelayNamesSaid : Prop := relayNamesRow.holds Try.pinned (OpenSpec.ofChange relayNamesSpec)

/-- ITS FALSE NEIGHBOUR: 'it returns false'. Refute it at one input. -/
def relayNamesWrong : ChangeSpec := { name := "relayNames", fn := fun _ => fun
  | [d] => { results := [.lit (.bool false)], args := [d] }
  | _ => none }
def RelayNamesWrongFalsely : Prop := relayNamesRow.holds Try.pinned (OpenSpec.ofChange relayNamesWrong)

/-- 'bargatelaw13.RelayFirst': WHATEVER THE INPUT: true; the input reads as it did. -/
def relayFirstSpec : ChangeSpec := { name := "relayFirst", fn := fun _ => fun
  | [d1, d2, d3] => { results := [.lit (.bool true)], args := [d1, d2, d3] }
  | _ => none }
def relayFirstRow : OpenClaim := { program := "ytiahiakllpjliaa", sum := "94e6d53e547604d13c933fcf730a5a98f8e7289e61a60f7befa301c7725eec64", func := "bargate/bargatelaw13.RelayFirst", spec := "relayFirst", unfollowed := true, recurses := true, plainKeys := false, apart := false }
def RelayFirstSaid : Prop := relayFirstRow.holds Try.pinned (OpenSpec.ofChange relayFirstSpec)

/-- ITS FALSE NEIGHBOUR: 'it returns false'. Refute it at one input. -/
def relayFirstWrong : ChangeSpec := { name := "relayFirst", fn := fun _ => fun
  | [d1, d2, d3] => { results := [.lit (.bool false)], args := [d1, d2, d3] }
  | _ => none }
def RelayFirstWrongFalsely : Prop := relayFirstRow.holds Try.pinned (OpenSpec.ofChange relayFirstWrong)

/-- 'bargatelaw14.StreamFinds': WHATEVER THE INPUT: true; the input reads as it did. -/
def streamFindsSpec : ChangeSpec := { name := "streamFinds", fn := fun _ => fun
  | [d1, d2, d3] => { results := [.lit (.bool true)], args := [d1, d2, d3] }
  | _ => none }
def streamFindsRow : OpenClaim := { program := "ytiahiakllpjliaa", sum := "94e6d53e547604d13c933fcf730a5a98f8e7289e61a60f7befa301c7725eec64", func := "bargate/bargatelaw14.StreamFinds", spec := "streamFinds", unfollowed := true, recurses := true, plainKeys := false, apart := false }
def StreamFindsSaid : Prop := streamFindsRow.holds Try.pinned (OpenSpec.ofChange streamFindsSpec)

/-- ITS FALSE NEIGHBOUR: 'it returns false'. Refute it at one input. -/
def streamFindsWrong : ChangeSpec := { name := "streamFinds", fn := fun _ => fun
  | [d1, d2, d3] => { results := [.lit (.bool false)], args := [d1, d2, d3] }
  | _ => none }
def StreamFindsWrongFalsely : Prop := streamFindsRow.holds Try.pinned (OpenSpec.ofChange streamFindsWrong)

/-- 'bargatelaw14.StreamMany': WHATEVER THE INPUT: true; the input reads as it did. -/
def streamManySpec : ChangeSpec := { name := "streamMany", fn := fun _ => fun
  | [d] => { results := [.lit (.bool true)], args := [d] }
  | _ => none }
def streamManyRow : OpenClaim := { program := "ytiahiakllpjliaa", sum := "94e6d53e547604d13c933fcf730a5a98f8e7289e61a60f7befa301c7725eec64", func := "bargate/bargatelaw14.StreamMany", spec := "streamMany", unfollowed := true, recurses := true, plainKeys := false, apart := false }
def StreamManySaid : Prop := streamManyRow.holds Try.pinned (OpenSpec.ofChange streamManySpec)

/-- ITS FALSE NEIGHBOUR: 'it returns false'. Refute it at one input. -/
def streamManyWrong : ChangeSpec := { name := "streamMany", fn := fun _ => fun
  | [d] => { results := [.lit (.bool false)], args := [d] }
  | _ => none }
def StreamManyWrongFalsely : Prop := streamManyRow.holds Try.pinned (OpenSpec.ofChange streamManyWrong)

/-- 'bargatelaw14.StreamVids': WHATEVER THE INPUT: true; the input reads as it did. -/
def streamVidsSpec : ChangeSpec := { name := "streamVids", fn := fun _ => fun
  | [d1, d2, d3] => { results := [.lit (.bool true)], args := [d1, d2, d3] }
  | _ => none }
def streamVidsRow : OpenClaim := { program := "ytiahiakllpjliaa", sum := "94e6d53e547604d13c933fcf730a5a98f8e7289e61a60f7befa301c7725eec64", func := "bargate/bargatelaw14.StreamVids", spec := "streamVids", unfollowed := true, recurses := true, plainKeys := false, apart := false }
def StreamVidsSaid : Prop := streamVidsRow.holds Try.pinned (OpenSpec.ofChange streamVidsSpec)

/-- ITS FALSE NEIGHBOUR: 'it returns false'. Refute it at one input. -/
def streamVidsWrong : ChangeSpec := { name := "streamVids", fn := fun _ => fun
  | [d1, d2, d3] => { results := [.lit (.bool false)], args := [d1, d2, d3] }
  | _ => none }
def StreamVidsWrongFalsely : Prop := streamVidsRow.holds Try.pinned (OpenSpec.ofChange streamVidsWrong)

/-- 'bargatetop.WholeLearns': WHATEVER THE INPUT: true; the input reads as it did. -/
def wholeLearnsSpec : ChangeSpec := { name := "wholeLearns", fn := fun _ => fun
  | [d1, d2] => { results := [.lit (.bool true)], args := [d1, d2] }
  | _ => none }
def wholeLearnsRow : OpenClaim := { program := "ytiahiakllpjliaa", sum := "94e6d53e547604d13c933fcf730a5a98f8e7289e61a60f7befa301c7725eec64", func := "bargate/bargatetop.WholeLearns", spec := "wholeLearns", unfollowed := true, recurses := true, plainKeys := false, apart := false }
def WholeLearnsSaid : Prop := wholeLearnsRow.holds Try.pinned (OpenSpec.ofChange wholeLearnsSpec)

/-- ITS FALSE NEIGHBOUR: 'it returns false'. Refute it at one input. -/
def wholeLearnsWrong : ChangeSpec := { name := "wholeLearns", fn := fun _ => fun
  | [d1, d2] => { results := [.lit (.bool false)], args := [d1, d2] }
  | _ => none }
def WholeLearnsWrongFalsely : Prop := wholeLearnsRow.holds Try.pinned (OpenSpec.ofChange wholeLearnsWrong)

/- THE SECOND FORM. 'bulk': how many values and letters a reading holds, each counted each time it is reached (what is shared counts as often as it is met; a slice's spare places count too). A statement '..UptoSaid' is the law's where the arguments, and the package variables that the reading takes, are together of bulk at most 1048576: NARROWER than '..Said'. Prove '..Said' where nothing that the law and all that it calls make is longer than what came in: it says more and counts as full. Else prove '..UptoSaid'. A law counts once. -/
mutual
def uptoBulk {H : Type} : DataW H → Nat
  | .lit (.string bytes) => bytes.length + 1
  | .lit _ => 1
  | .nil => 1
  | .ptr d => uptoBulk d + 1
  | .slice elems spare => uptoBulkAll elems + uptoBulkAll spare + 1
  | .agg parts => uptoBulkAll parts + 1
  | .iface _ d => uptoBulk d + 1
  | .map entries => uptoBulkEntries entries + 1
  | .held _ => 1
def uptoBulkAll {H : Type} : List (DataW H) → Nat
  | [] => 0
  | d :: r => uptoBulk d + uptoBulkAll r
def uptoBulkEntries {H : Type} : List (Lit × DataW H) → Nat
  | [] => 0
  | x :: r => uptoBulkEntry x + uptoBulkEntries r
def uptoBulkEntry {H : Type} : Lit × DataW H → Nat
  | (.string bytes, d) => bytes.length + uptoBulk d + 1
  | (_, d) => uptoBulk d + 1
 end
def uptoSmall : (H : Type) → List (DataW H) → Bool := fun _ ds => decide (uptoBulkAll ds ≤ 1048576)
def OpenSpec.upto (s : _root_.Go.ChangeSpec) : _root_.Go.OpenSpec := { _root_.Go.OpenSpec.ofChange s with cond := some uptoSmall }

/-- 'bargatelaw12.FdbPlays', WHERE WHAT IT READS IS OF BULK AT MOST 1048576: true; the input reads as it did. -/
def fdbPlaysUptoRow : OpenClaim := { program := "ytiahiakllpjliaa", sum := "94e6d53e547604d13c933fcf730a5a98f8e7289e61a60f7befa301c7725eec64", func := "bargate/bargatelaw12.FdbPlays", spec := "fdbPlays", unfollowed := true, recurses := true, plainKeys := false, apart := false, narrowed := true }
def FdbPlaysUptoSaid : Prop := fdbPlaysUptoRow.holds Try.pinned (OpenSpec.upto fdbPlaysSpec)

/-- 'bargatelaw12.FdbApart', WHERE WHAT IT READS IS OF BULK AT MOST 1048576: true; the input reads as it did. -/
def fdbApartUptoRow : OpenClaim := { program := "ytiahiakllpjliaa", sum := "94e6d53e547604d13c933fcf730a5a98f8e7289e61a60f7befa301c7725eec64", func := "bargate/bargatelaw12.FdbApart", spec := "fdbApart", unfollowed := true, recurses := true, plainKeys := false, apart := false, narrowed := true }
def FdbApartUptoSaid : Prop := fdbApartUptoRow.holds Try.pinned (OpenSpec.upto fdbApartSpec)

/-- 'bargatelaw12.FdbMoves', WHERE WHAT IT READS IS OF BULK AT MOST 1048576: true; the input reads as it did. -/
def fdbMovesUptoRow : OpenClaim := { program := "ytiahiakllpjliaa", sum := "94e6d53e547604d13c933fcf730a5a98f8e7289e61a60f7befa301c7725eec64", func := "bargate/bargatelaw12.FdbMoves", spec := "fdbMoves", unfollowed := true, recurses := true, plainKeys := false, apart := false, narrowed := true }
def FdbMovesUptoSaid : Prop := fdbMovesUptoRow.holds Try.pinned (OpenSpec.upto fdbMovesSpec)

/-- 'bargatelaw12.FdbFull', WHERE WHAT IT READS IS OF BULK AT MOST 1048576: true; the input reads as it did. -/
def fdbFullUptoRow : OpenClaim := { program := "ytiahiakllpjliaa", sum := "94e6d53e547604d13c933fcf730a5a98f8e7289e61a60f7befa301c7725eec64", func := "bargate/bargatelaw12.FdbFull", spec := "fdbFull", unfollowed := true, recurses := true, plainKeys := false, apart := false, narrowed := true }
def FdbFullUptoSaid : Prop := fdbFullUptoRow.holds Try.pinned (OpenSpec.upto fdbFullSpec)

/-- 'bargatelaw13.RelayNames', WHERE WHAT IT READS IS OF BULK AT MOST 1048576: true; the input reads as it did. -/
def relayNamesUptoRow : OpenClaim := { program := "ytiahiakllpjliaa", sum := "94e6d53e547604d13c933fcf730a5a98f8e7289e61a60f7befa301c7725eec64", func := "bargate/bargatelaw13.RelayNames", spec := "relayNames", unfollowed := true, recurses := true, plainKeys := false, apart := false, narrowed := true }
def RelayNamesUptoSaid : Prop := relayNamesUptoRow.holds Try.pinned (OpenSpec.upto relayNamesSpec)

/-- 'bargatelaw13.RelayFirst', WHERE WHAT IT READS IS OF BULK AT MOST 1048576: true; the input reads as it did. -/
def relayFirstUptoRow : OpenClaim := { program := "ytiahiakllpjliaa", sum := "94e6d53e547604d13c933fcf730a5a98f8e7289e61a60f7befa301c7725eec64", func := "bargate/bargatelaw13.RelayFirst", spec := "relayFirst", unfollowed := true, recurses := true, plainKeys := false, apart := false, narrowed := true }
def RelayFirstUptoSaid : Prop := relayFirstUptoRow.holds Try.pinned (OpenSpec.upto relayFirstSpec)

/-- 'bargatelaw14.StreamFinds', WHERE WHAT IT READS IS OF BULK AT MOST 1048576: true; the input reads as it did. -/
def streamFindsUptoRow : OpenClaim := { program := "ytiahiakllpjliaa", sum := "94e6d53e547604d13c933fcf730a5a98f8e7289e61a60f7befa301c7725eec64", func := "bargate/bargatelaw14.StreamFinds", spec := "streamFinds", unfollowed := true, recurses := true, plainKeys := false, apart := false, narrowed := true }
def StreamFindsUptoSaid : Prop := streamFindsUptoRow.holds Try.pinned (OpenSpec.upto streamFindsSpec)

/-- 'bargatelaw14.StreamMany', WHERE WHAT IT READS IS OF BULK AT MOST 1048576: true; the input reads as it did. -/
def streamManyUptoRow : OpenClaim := { program := "ytiahiakllpjliaa", sum := "94e6d53e547604d13c933fcf730a5a98f8e7289e61a60f7befa301c7725eec64", func := "bargate/bargatelaw14.StreamMany", spec := "streamMany", unfollowed := true, recurses := true, plainKeys := false, apart := false, narrowed := true }
def StreamManyUptoSaid : Prop := streamManyUptoRow.holds Try.pinned (OpenSpec.upto streamManySpec)

/-- 'bargatelaw14.StreamVids', WHERE WHAT IT READS IS OF BULK AT MOST 1048576: true; the input reads as it did. -/
def streamVidsUptoRow : OpenClaim := { program := "ytiahiakllpjliaa", sum := "94e6d53e547604d13c933fcf730a5a98f8e7289e61a60f7befa301c7725eec64", func := "bargate/bargatelaw14.StreamVids", spec := "streamVids", unfollowed := true, recurses := true, plainKeys := false, apart := false, narrowed := true }
def StreamVidsUptoSaid : Prop := streamVidsUptoRow.holds Try.pinned (OpenSpec.upto streamVidsSpec)

/-- 'bargatetop.WholeLearns', WHERE WHAT IT READS IS OF BULK AT MOST 1048576: true; the input reads as it did. -/
def wholeLearnsUptoRow : OpenClaim := { program := "ytiahiakllpjliaa", sum := "94e6d53e547604d13c933fcf730a5a98f8e7289e61a60f7befa301c7725eec64", func := "bargate/bargatetop.WholeLearns", spec := "wholeLearns", unfollowed := true, recurses := true, plainKeys := false, apart := false, narrowed := true }
def WholeLearnsUptoSaid : Prop := wholeLearnsUptoRow.holds Try.pinned (OpenSpec.upto wholeLearnsSpec)

end Rows
end Go.Proofs.Ytiahiakllpjliaa
