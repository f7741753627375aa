/-
  No cell of these rows narrows 'for every input' (looked for: loops, veiled, ifaces, maps, wideKeys, modest, calm, conditions, laid).
  DERIVED. THE GIVEN ROWS OF THIS SEAT. 11 by the template 'for every input the law returns true; each argument reads behind the call as it read before'; 0 by the template 'total and deterministic' (their statements: YtjfjohbibkidhaaTotals.lean).
  GIVEN WITH THE SEED: the statements are not yours to turn. If you find one false, say at which input.
  Laid BY PROGRAM, IN A SANDBOX (cutbox-rows.mjs): the forced cells as the released guide's own fill.sh prints them over the translation e451a8bce0d68a22… (all of the seat's roots in one cut). By AI agents, Wed Nov 11 2026. No macro, syntax, notation, axiom, sorry.
-/
import Derived.Test.YtjfjohbibkidhaaChecked
import GoSem.Claim
import GoSem.ClaimJoined
import GoSem.ClaimMapViews
import Derived.JoinedTies
import Derived.KernelRfl
namespace Go.Proofs.Ytjfjohbibkidhaa
/- THE CELL 'sum', in the pinned program and in every row, IS THE sha256 OF THE DUMP (.gsa) THAT YtjfjohbibkidhaaProg.lean LOADS. Nothing in Lean hashes anything: it is a label: what it is worth is what the hold of that sum in a sandbox is worth. -/
noncomputable def Try.pinned : Pinned := { name := "ytjfjohbibkidhaa", sum := "e451a8bce0d68a222c3ca960c6a7afe4353c8979e7e91a149e612011b3253df3", checked := Try.checked }
namespace Rows
def none {H : Type} : Left H := { results := [], args := [] }

/-- 'bargatelaw07.RingPlays': WHATEVER THE INPUT: true; the input reads as it did. -/
def ringPlaysSpec : ChangeSpec := { name := "ringPlays", fn := fun _ => fun
  | [d1, d2] => { results := [.lit (.bool true)], args := [d1, d2] }
  | _ => none }
def ringPlaysRow : OpenClaim := { program := "ytjfjohbibkidhaa", sum := "e451a8bce0d68a222c3ca960c6a7afe4353c8979e7e91a149e612011b3253df3", func := "bargate/bargatelaw07.RingPlays", spec := "ringPlays", apart := false }
def RingPlaysSaid : Prop := ringPlaysRow.holds Try.pinned (OpenSpec.ofChange ringPlaysSpec)

/-- ITS FALSE NEIGHBOUR: 'it returns false'. Refute it at one input. -/
def ringPlaysWrong : ChangeSpec := { name := "ringPlays", fn := fun _ => fun
  | [d1, d2] => { results := [.lit (.bool false)], args := [d1, d2] }
  | _ => none }
def RingPlaysWrongFalsely : Prop := ringPlaysRow.holds Try.pinned (OpenSpec.ofChange ringPlaysWrong)

/-- 'bargatelaw07.RingRound': WHATEVER THE INPUT: true; the input reads as it did. -/
def ringRoundSpec : ChangeSpec := { name := "ringRound", fn := fun _ => fun
  | [d1, d2, d3] => { results := [.lit (.bool true)], args := [d1, d2, d3] }
  | _ => none }
def ringRoundRow : OpenClaim := { program := "ytjfjohbibkidhaa", sum := "e451a8bce0d68a222c3ca960c6a7afe4353c8979e7e91a149e612011b3253df3", func := "bargate/bargatelaw07.RingRound", spec := "ringRound", apart := false }
def RingRoundSaid : Prop := ringRoundRow.holds Try.pinned (OpenSpec.ofChange ringRoundSpec)

/-- ITS FALSE NEIGHBOUR: 'it returns false'. Refute it at one input. -/
def ringRoundWrong : ChangeSpec := { name := "ringRound", fn := fun _ => fun
  | [d1, d2, d3] => { results := [.lit (.bool false)], args := [d1, d2, d3] }
  | _ => none }
def RingRoundWrongFalsely : Prop := ringRoundRow.holds Try.pinned (OpenSpec.ofChange ringRoundWrong)

/-- 'bargatelaw07.RingApart': WHATEVER THE INPUT: true; the input reads as it did. -/
def ringApartSpec : ChangeSpec := { name := "ringApart", fn := fun _ => fun
  | [d1, d2, d3] => { results := [.lit (.bool true)], args := [d1, d2, d3] }
  | _ => none }
def ringApartRow : OpenClaim := { program := "ytjfjohbibkidhaa", sum := "e451a8bce0d68a222c3ca960c6a7afe4353c8979e7e91a149e612011b3253df3", func := "bargate/bargatelaw07.RingApart", spec := "ringApart", apart := false }
def RingApartSaid : Prop := ringApartRow.holds Try.pinned (OpenSpec.ofChange ringApartSpec)

/-- ITS FALSE NEIGHBOUR: 'it returns false'. Refute it at one input. -/
def ringApartWrong : ChangeSpec := { name := "ringApart", fn := fun _ => fun
  | [d1, d2, d3] => { results := [.lit (.bool false)], args := [d1, d2, d3] }
  | _ => none }
def RingApartWrongFalsely : Prop := ringApartRow.holds Try.pinned (OpenSpec.ofChange ringApartWrong)

/-- 'bargatelaw08.VectorOrders': WHATEVER THE INPUT: true; the input reads as it did. -/
def vectorOrdersSpec : ChangeSpec := { name := "vectorOrders", fn := fun _ => fun
  | [d1, d2, d3] => { results := [.lit (.bool true)], args := [d1, d2, d3] }
  | _ => none }
def vectorOrdersRow : OpenClaim := { program := "ytjfjohbibkidhaa", sum := "e451a8bce0d68a222c3ca960c6a7afe4353c8979e7e91a149e612011b3253df3", func := "bargate/bargatelaw08.VectorOrders", spec := "vectorOrders", apart := false }
def VectorOrdersSaid : Prop := vectorOrdersRow.holds Try.pinned (OpenSpec.ofChange vectorOrdersSpec)

/-- ITS FALSE NEIGHBOUR: 'it returns false'. Refute it at one input. -/
def vectorOrdersWrong : ChangeSpec := { name := "vectorOrders", fn := fun _ => fun
  | [d1, d2, d3] => { results := [.lit (.bool false)], args := [d1, d2, d3] }
  | _ => none }
def VectorOrdersWrongFalsely : Prop := vectorOrdersRow.holds Try.pinned (OpenSpec.ofChange vectorOrdersWrong)

/-- 'bargatelaw08.VectorOver': WHATEVER THE INPUT: true; the input reads as it did. -/
def vectorOverSpec : ChangeSpec := { name := "vectorOver", fn := fun _ => fun
  | [d1, d2, d3] => { results := [.lit (.bool true)], args := [d1, d2, d3] }
  | _ => none }
def vectorOverRow : OpenClaim := { program := "ytjfjohbibkidhaa", sum := "e451a8bce0d68a222c3ca960c6a7afe4353c8979e7e91a149e612011b3253df3", func := "bargate/bargatelaw08.VectorOver", spec := "vectorOver", apart := false }
def VectorOverSaid : Prop := vectorOverRow.holds Try.pinned (OpenSpec.ofChange vectorOverSpec)

/-- ITS FALSE NEIGHBOUR: 'it returns false'. Refute it at one input. -/
def vectorOverWrong : ChangeSpec := { name := "vectorOver", fn := fun _ => fun
  | [d1, d2, d3] => { results := [.lit (.bool false)], args := [d1, d2, d3] }
  | _ => none }
def VectorOverWrongFalsely : Prop := vectorOverRow.holds Try.pinned (OpenSpec.ofChange vectorOverWrong)

/-- 'bargatelaw08.VectorBest': WHATEVER THE INPUT: true; the input reads as it did. -/
def vectorBestSpec : ChangeSpec := { name := "vectorBest", fn := fun _ => fun
  | [d] => { results := [.lit (.bool true)], args := [d] }
  | _ => none }
def vectorBestRow : OpenClaim := { program := "ytjfjohbibkidhaa", sum := "e451a8bce0d68a222c3ca960c6a7afe4353c8979e7e91a149e612011b3253df3", func := "bargate/bargatelaw08.VectorBest", spec := "vectorBest", apart := false }
def VectorBestSaid : Prop := vectorBestRow.holds Try.pinned (OpenSpec.ofChange vectorBestSpec)

/-- ITS FALSE NEIGHBOUR: 'it returns false'. Refute it at one input. -/
def vectorBestWrong : ChangeSpec := { name := "vectorBest", fn := fun _ => fun
  | [d] => { results := [.lit (.bool false)], args := [d] }
  | _ => none }
def VectorBestWrongFalsely : Prop := vectorBestRow.holds Try.pinned (OpenSpec.ofChange vectorBestWrong)

/-- 'bargatelaw08.VectorSupersedes': WHATEVER THE INPUT: true; the input reads as it did. -/
def vectorSupersedesSpec : ChangeSpec := { name := "vectorSupersedes", fn := fun _ => fun
  | [d1, d2] => { results := [.lit (.bool true)], args := [d1, d2] }
  | _ => none }
def vectorSupersedesRow : OpenClaim := { program := "ytjfjohbibkidhaa", sum := "e451a8bce0d68a222c3ca960c6a7afe4353c8979e7e91a149e612011b3253df3", func := "bargate/bargatelaw08.VectorSupersedes", spec := "vectorSupersedes", apart := false }
def VectorSupersedesSaid : Prop := vectorSupersedesRow.holds Try.pinned (OpenSpec.ofChange vectorSupersedesSpec)

/-- ITS FALSE NEIGHBOUR: 'it returns false'. Refute it at one input. -/
def vectorSupersedesWrong : ChangeSpec := { name := "vectorSupersedes", fn := fun _ => fun
  | [d1, d2] => { results := [.lit (.bool false)], args := [d1, d2] }
  | _ => none }
def VectorSupersedesWrongFalsely : Prop := vectorSupersedesRow.holds Try.pinned (OpenSpec.ofChange vectorSupersedesWrong)

/-- 'bargatelaw08.VectorIds': WHATEVER THE INPUT: true; the input reads as it did. -/
def vectorIdsSpec : ChangeSpec := { name := "vectorIds", fn := fun _ => fun
  | [d1, d2, d3] => { results := [.lit (.bool true)], args := [d1, d2, d3] }
  | _ => none }
def vectorIdsRow : OpenClaim := { program := "ytjfjohbibkidhaa", sum := "e451a8bce0d68a222c3ca960c6a7afe4353c8979e7e91a149e612011b3253df3", func := "bargate/bargatelaw08.VectorIds", spec := "vectorIds", apart := false }
def VectorIdsSaid : Prop := vectorIdsRow.holds Try.pinned (OpenSpec.ofChange vectorIdsSpec)

/-- ITS FALSE NEIGHBOUR: 'it returns false'. Refute it at one input. -/
def vectorIdsWrong : ChangeSpec := { name := "vectorIds", fn := fun _ => fun
  | [d1, d2, d3] => { results := [.lit (.bool false)], args := [d1, d2, d3] }
  | _ => none }
def VectorIdsWrongFalsely : Prop := vectorIdsRow.holds Try.pinned (OpenSpec.ofChange vectorIdsWrong)

/-- 'bargatelaw08.VectorCosts': WHATEVER THE INPUT: true; the input reads as it did. -/
def vectorCostsSpec : ChangeSpec := { name := "vectorCosts", fn := fun _ => fun
  | [d] => { results := [.lit (.bool true)], args := [d] }
  | _ => none }
def vectorCostsRow : OpenClaim := { program := "ytjfjohbibkidhaa", sum := "e451a8bce0d68a222c3ca960c6a7afe4353c8979e7e91a149e612011b3253df3", func := "bargate/bargatelaw08.VectorCosts", spec := "vectorCosts", apart := false }
def VectorCostsSaid : Prop := vectorCostsRow.holds Try.pinned (OpenSpec.ofChange vectorCostsSpec)

/-- ITS FALSE NEIGHBOUR: 'it returns false'. Refute it at one input. -/
def vectorCostsWrong : ChangeSpec := { name := "vectorCosts", fn := fun _ => fun
  | [d] => { results := [.lit (.bool false)], args := [d] }
  | _ => none }
def VectorCostsWrongFalsely : Prop := vectorCostsRow.holds Try.pinned (OpenSpec.ofChange vectorCostsWrong)

/-- 'bargatelaw08.VectorChain': WHATEVER THE INPUT: true; the input reads as it did. -/
def vectorChainSpec : ChangeSpec := { name := "vectorChain", fn := fun _ => fun
  | [d1, d2] => { results := [.lit (.bool true)], args := [d1, d2] }
  | _ => none }
def vectorChainRow : OpenClaim := { program := "ytjfjohbibkidhaa", sum := "e451a8bce0d68a222c3ca960c6a7afe4353c8979e7e91a149e612011b3253df3", func := "bargate/bargatelaw08.VectorChain", spec := "vectorChain", apart := false }
def VectorChainSaid : Prop := vectorChainRow.holds Try.pinned (OpenSpec.ofChange vectorChainSpec)

/-- ITS FALSE NEIGHBOUR: 'it returns false'. Refute it at one input. -/
def vectorChainWrong : ChangeSpec := { name := "vectorChain", fn := fun _ => fun
  | [d1, d2] => { results := [.lit (.bool false)], args := [d1, d2] }
  | _ => none }
def VectorChainWrongFalsely : Prop := vectorChainRow.holds Try.pinned (OpenSpec.ofChange vectorChainWrong)

/-- 'bargatetop.WholeQueues': WHATEVER THE INPUT: true; the input reads as it did. -/
def wholeQueuesSpec : ChangeSpec := { name := "wholeQueues", fn := fun _ => fun
  | [d] => { results := [.lit (.bool true)], args := [d] }
  | _ => none }
def wholeQueuesRow : OpenClaim := { program := "ytjfjohbibkidhaa", sum := "e451a8bce0d68a222c3ca960c6a7afe4353c8979e7e91a149e612011b3253df3", func := "bargate/bargatetop.WholeQueues", spec := "wholeQueues", apart := false }
def WholeQueuesSaid : Prop := wholeQueuesRow.holds Try.pinned (OpenSpec.ofChange wholeQueuesSpec)

/-- ITS FALSE NEIGHBOUR: 'it returns false'. Refute it at one input. -/
def wholeQueuesWrong : ChangeSpec := { name := "wholeQueues", fn := fun _ => fun
  | [d] => { results := [.lit (.bool false)], args := [d] }
  | _ => none }
def WholeQueuesWrongFalsely : Prop := wholeQueuesRow.holds Try.pinned (OpenSpec.ofChange wholeQueuesWrong)

/- THE SECOND FORM. 'bulk': how many values and letters a reading holds, each counted each time it is reached (what is shared counts as often as it is met; a slice's spare places count too). A statement '..UptoSaid' is the law's where the arguments, and the package variables that the reading takes, are together of bulk at most 1048576: NARROWER than '..Said'. Prove '..Said' where nothing that the law and all that it calls make is longer than what came in: it says more and counts as full. Else prove '..UptoSaid'. A law counts once. -/
mutual
def uptoBulk {H : Type} : DataW H → Nat
  | .lit (.string bytes) => bytes.length + 1
  | .lit _ => 1
  | .nil => 1
  | .ptr d => uptoBulk d + 1
  | .slice elems spare => uptoBulkAll elems + uptoBulkAll spare + 1
  | .agg parts => uptoBulkAll parts + 1
  | .iface _ d => uptoBulk d + 1
  | .map entries => uptoBulkEntries entries + 1
  | .held _ => 1
def uptoBulkAll {H : Type} : List (DataW H) → Nat
  | [] => 0
  | d :: r => uptoBulk d + uptoBulkAll r
def uptoBulkEntries {H : Type} : List (Lit × DataW H) → Nat
  | [] => 0
  | x :: r => uptoBulkEntry x + uptoBulkEntries r
def uptoBulkEntry {H : Type} : Lit × DataW H → Nat
  | (.string bytes, d) => bytes.length + uptoBulk d + 1
  | (_, d) => uptoBulk d + 1
 end
def uptoSmall : (H : Type) → List (DataW H) → Bool := fun _ ds => decide (uptoBulkAll ds ≤ 1048576)
def OpenSpec.upto (s : _root_.Go.ChangeSpec) : _root_.Go.OpenSpec := { _root_.Go.OpenSpec.ofChange s with cond := some uptoSmall }

/-- 'bargatelaw07.RingPlays', WHERE WHAT IT READS IS OF BULK AT MOST 1048576: true; the input reads as it did. -/
def ringPlaysUptoRow : OpenClaim := { program := "ytjfjohbibkidhaa", sum := "e451a8bce0d68a222c3ca960c6a7afe4353c8979e7e91a149e612011b3253df3", func := "bargate/bargatelaw07.RingPlays", spec := "ringPlays", apart := false, narrowed := true }
def RingPlaysUptoSaid : Prop := ringPlaysUptoRow.holds Try.pinned (OpenSpec.upto ringPlaysSpec)

/-- 'bargatelaw07.RingRound', WHERE WHAT IT READS IS OF BULK AT MOST 1048576: true; the input reads as it did. -/
def ringRoundUptoRow : OpenClaim := { program := "ytjfjohbibkidhaa", sum := "e451a8bce0d68a222c3ca960c6a7afe4353c8979e7e91a149e612011b3253df3", func := "bargate/bargatelaw07.RingRound", spec := "ringRound", apart := false, narrowed := true }
def RingRoundUptoSaid : Prop := ringRoundUptoRow.holds Try.pinned (OpenSpec.upto ringRoundSpec)

/-- 'bargatelaw07.RingApart', WHERE WHAT IT READS IS OF BULK AT MOST 1048576: true; the input reads as it did. -/
def ringApartUptoRow : OpenClaim := { program := "ytjfjohbibkidhaa", sum := "e451a8bce0d68a222c3ca960c6a7afe4353c8979e7e91a149e612011b3253df3", func := "bargate/bargatelaw07.RingApart", spec := "ringApart", apart := false, narrowed := true }
def RingApartUptoSaid : Prop := ringApartUptoRow.holds Try.pinned (OpenSpec.upto ringApartSpec)

/-- 'bargatelaw08.VectorOrders', WHERE WHAT IT READS IS OF BULK AT MOST 1048576: true; the input reads as it did. -/
def vectorOrdersUptoRow : OpenClaim := { program := "ytjfjohbibkidhaa", sum := "e451a8bce0d68a222c3ca960c6a7afe4353c8979e7e91a149e612011b3253df3", func := "bargate/bargatelaw08.VectorOrders", spec := "vectorOrders", apart := false, narrowed := true }
def VectorOrdersUptoSaid : Prop := vectorOrdersUptoRow.holds Try.pinned (OpenSpec.upto vectorOrdersSpec)

/-- 'bargatelaw08.VectorOver', WHERE WHAT IT READS IS OF BULK AT MOST 1048576: true; the input reads as it did. -/
def vectorOverUptoRow : OpenClaim := { program := "ytjfjohbibkidhaa", sum := "e451a8bce0d68a222c3ca960c6a7afe4353c8979e7e91a149e612011b3253df3", func := "bargate/bargatelaw08.VectorOver", spec := "vectorOver", apart := false, narrowed := true }
def VectorOverUptoSaid : Prop := vectorOverUptoRow.holds Try.pinned (OpenSpec.upto vectorOverSpec)

/-- 'bargatelaw08.VectorBest', WHERE WHAT IT READS IS OF BULK AT MOST 1048576: true; the input reads as it did. -/
def vectorBestUptoRow : OpenClaim := { program := "ytjfjohbibkidhaa", sum := "e451a8bce0d68a222c3ca960c6a7afe4353c8979e7e91a149e612011b3253df3", func := "bargate/bargatelaw08.VectorBest", spec := "vectorBest", apart := false, narrowed := true }
def VectorBestUptoSaid : Prop := vectorBestUptoRow.holds Try.pinned (OpenSpec.upto vectorBestSpec)

/-- 'bargatelaw08.VectorSupersedes', WHERE WHAT IT READS IS OF BULK AT MOST 1048576: true; the input reads as it did. -/
def vectorSupersedesUptoRow : OpenClaim := { program := "ytjfjohbibkidhaa", sum := "e451a8bce0d68a222c3ca960c6a7afe4353c8979e7e91a149e612011b3253df3", func := "bargate/bargatelaw08.VectorSupersedes", spec := "vectorSupersedes", apart := false, narrowed := true }
def VectorSupersedesUptoSaid : Prop := vectorSupersedesUptoRow.holds Try.pinned (OpenSpec.upto vectorSupersedesSpec)

/-- 'bargatelaw08.VectorIds', WHERE WHAT IT READS IS OF BULK AT MOST 1048576: true; the input reads as it did. -/
def vectorIdsUptoRow : OpenClaim := { program := "ytjfjohbibkidhaa", sum := "e451a8bce0d68a222c3ca960c6a7afe4353c8979e7e91a149e612011b3253df3", func := "bargate/bargatelaw08.VectorIds", spec := "vectorIds", apart := false, narrowed := true }
def VectorIdsUptoSaid : Prop := vectorIdsUptoRow.holds Try.pinned (OpenSpec.upto vectorIdsSpec)

/-- 'bargatelaw08.VectorCosts', WHERE WHAT IT READS IS OF BULK AT MOST 1048576: true; the input reads as it did. -/
def vectorCostsUptoRow : OpenClaim := { program := "ytjfjohbibkidhaa", sum := "e451a8bce0d68a222c3ca960c6a7afe4353c8979e7e91a149e612011b3253df3", func := "bargate/bargatelaw08.VectorCosts", spec := "vectorCosts", apart := false, narrowed := true }
def VectorCostsUptoSaid : Prop := vectorCostsUptoRow.holds Try.pinned (OpenSpec.upto vectorCostsSpec)

/-- 'bargatelaw08.VectorChain', WHERE WHAT IT READS IS OF BULK AT MOST 1048576: true; the input reads as it did. -/
def vectorChainUptoRow : OpenClaim := { program := "ytjfjohbibkidhaa", sum := "e451a8bce0d68a222c3ca960c6a7afe4353c8979e7e91a149e612011b3253df3", func := "bargate/bargatelaw08.VectorChain", spec := "vectorChain", apart := false, narrowed := true }
def VectorChainUptoSaid : Prop := vectorChainUptoRow.holds Try.pinned (OpenSpec.upto vectorChainSpec)

/-- 'bargatetop.WholeQueues', WHERE WHAT IT READS IS OF BULK AT MOST 1048576: true; the input reads as it did. -/
def wholeQueuesUptoRow : OpenClaim := { program := "ytjfjohbibkidhaa", sum := "e451a8bce0d68a222c3ca960c6a7afe4353c8979e7e91a149e612011b3253df3", func := "bargate/bargatetop.WholeQueues", spec := "wholeQueues", apart := false, narrowed := true }
def WholeQueuesUptoSaid : Prop := wholeQueuesUptoRow.holds Try.pinned (OpenSpec.upto wholeQueuesSpec)

end Rows
end Go.Proofs.Ytjfjohbibkidhaa
