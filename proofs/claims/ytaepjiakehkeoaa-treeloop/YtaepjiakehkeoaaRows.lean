/-
  No cell of these rows narrows 'for every input' (looked for: loops, veiled, ifaces, maps, wideKeys, modest, calm, conditions, laid).
  DERIVED. THE GIVEN ROWS OF THIS SEAT. 15 by the template 'for every input the law returns true; each argument reads behind the call as it read before'; 0 by the template 'total and deterministic' (their statements: YtaepjiakehkeoaaTotals.lean).
  GIVEN WITH THE SEED: the statements are not yours to turn. If you find one false, say at which input.
  Laid BY PROGRAM, IN A SANDBOX (cutbox-rows.mjs): the forced cells as the released guide's own fill.sh prints them over the translation b2408fa6e58e73e0… (all of the seat's roots in one cut). By AI agents, Wed Nov 11 2026. No macro, syntax, notation, axiom, sorry.
-/
import Derived.Test.YtaepjiakehkeoaaChecked
import GoSem.Claim
import GoSem.ClaimJoined
import GoSem.ClaimMapViews
import Derived.JoinedTies
import Derived.KernelRfl
namespace Go.Proofs.Ytaepjiakehkeoaa
/- THE CELL 'sum', in the pinned program and in every row, IS THE sha256 OF THE DUMP (.gsa) THAT YtaepjiakehkeoaaProg.lean LOADS. Nothing in Lean hashes anything: it is a label: what it is worth is what the hold of that sum in a sandbox is worth. -/
noncomputable def Try.pinned : Pinned := { name := "ytaepjiakehkeoaa", sum := "b2408fa6e58e73e02e091a82e5028a804d1b59eb0e4009baae66e334ac2955ac", checked := Try.checked }
namespace Rows
def none {H : Type} : Left H := { results := [], args := [] }

/-- 'bargatelaw09.RoleSelects': WHATEVER THE INPUT: true; the input reads as it did. -/
def roleSelectsSpec : ChangeSpec := { name := "roleSelects", fn := fun _ => fun
  | [d1, d2] => { results := [.lit (.bool true)], args := [d1, d2] }
  | _ => none }
def roleSelectsRow : OpenClaim := { program := "ytaepjiakehkeoaa", sum := "b2408fa6e58e73e02e091a82e5028a804d1b59eb0e4009baae66e334ac2955ac", func := "bargate/bargatelaw09.RoleSelects", spec := "roleSelects", apart := false }
def RoleSelectsSaid : Prop := roleSelectsRow.holds Try.pinned (OpenSpec.ofChange roleSelectsSpec)

/-- ITS FALSE NEIGHBOUR: 'it returns false'. Refute it at one input. -/
def roleSelectsWrong : ChangeSpec := { name := "roleSelects", fn := fun _ => fun
  | [d1, d2] => { results := [.lit (.bool false)], args := [d1, d2] }
  | _ => none }
def RoleSelectsWrongFalsely : Prop := roleSelectsRow.holds Try.pinned (OpenSpec.ofChange roleSelectsWrong)

/-- 'bargatelaw09.RoleOne': WHATEVER THE INPUT: true; the input reads as it did. -/
def roleOneSpec : ChangeSpec := { name := "roleOne", fn := fun _ => fun
  | [d1, d2] => { results := [.lit (.bool true)], args := [d1, d2] }
  | _ => none }
def roleOneRow : OpenClaim := { program := "ytaepjiakehkeoaa", sum := "b2408fa6e58e73e02e091a82e5028a804d1b59eb0e4009baae66e334ac2955ac", func := "bargate/bargatelaw09.RoleOne", spec := "roleOne", apart := false }
def RoleOneSaid : Prop := roleOneRow.holds Try.pinned (OpenSpec.ofChange roleOneSpec)

/-- ITS FALSE NEIGHBOUR: 'it returns false'. Refute it at one input. -/
def roleOneWrong : ChangeSpec := { name := "roleOne", fn := fun _ => fun
  | [d1, d2] => { results := [.lit (.bool false)], args := [d1, d2] }
  | _ => none }
def RoleOneWrongFalsely : Prop := roleOneRow.holds Try.pinned (OpenSpec.ofChange roleOneWrong)

/-- 'bargatelaw09.RoleDown': WHATEVER THE INPUT: true; the input reads as it did. -/
def roleDownSpec : ChangeSpec := { name := "roleDown", fn := fun _ => fun
  | [d1, d2, d3] => { results := [.lit (.bool true)], args := [d1, d2, d3] }
  | _ => none }
def roleDownRow : OpenClaim := { program := "ytaepjiakehkeoaa", sum := "b2408fa6e58e73e02e091a82e5028a804d1b59eb0e4009baae66e334ac2955ac", func := "bargate/bargatelaw09.RoleDown", spec := "roleDown", apart := false }
def RoleDownSaid : Prop := roleDownRow.holds Try.pinned (OpenSpec.ofChange roleDownSpec)

/-- ITS FALSE NEIGHBOUR: 'it returns false'. Refute it at one input. -/
def roleDownWrong : ChangeSpec := { name := "roleDown", fn := fun _ => fun
  | [d1, d2, d3] => { results := [.lit (.bool false)], args := [d1, d2, d3] }
  | _ => none }
def RoleDownWrongFalsely : Prop := roleDownRow.holds Try.pinned (OpenSpec.ofChange roleDownWrong)

/-- 'bargatelaw09.RoleNames': WHATEVER THE INPUT: true; the input reads as it did. -/
def roleNamesSpec : ChangeSpec := { name := "roleNames", fn := fun _ => fun
  | [d] => { results := [.lit (.bool true)], args := [d] }
  | _ => none }
def roleNamesRow : OpenClaim := { program := "ytaepjiakehkeoaa", sum := "b2408fa6e58e73e02e091a82e5028a804d1b59eb0e4009baae66e334ac2955ac", func := "bargate/bargatelaw09.RoleNames", spec := "roleNames", apart := false }
def RoleNamesSaid : Prop := roleNamesRow.holds Try.pinned (OpenSpec.ofChange roleNamesSpec)

/-- ITS FALSE NEIGHBOUR: 'it returns false'. Refute it at one input. -/
def roleNamesWrong : ChangeSpec := { name := "roleNames", fn := fun _ => fun
  | [d] => { results := [.lit (.bool false)], args := [d] }
  | _ => none }
def RoleNamesWrongFalsely : Prop := roleNamesRow.holds Try.pinned (OpenSpec.ofChange roleNamesWrong)

/-- 'bargatelaw09.RoleMore': WHATEVER THE INPUT: true; the input reads as it did. -/
def roleMoreSpec : ChangeSpec := { name := "roleMore", fn := fun _ => fun
  | [d1, d2, d3] => { results := [.lit (.bool true)], args := [d1, d2, d3] }
  | _ => none }
def roleMoreRow : OpenClaim := { program := "ytaepjiakehkeoaa", sum := "b2408fa6e58e73e02e091a82e5028a804d1b59eb0e4009baae66e334ac2955ac", func := "bargate/bargatelaw09.RoleMore", spec := "roleMore", apart := false }
def RoleMoreSaid : Prop := roleMoreRow.holds Try.pinned (OpenSpec.ofChange roleMoreSpec)

/-- ITS FALSE NEIGHBOUR: 'it returns false'. Refute it at one input. -/
def roleMoreWrong : ChangeSpec := { name := "roleMore", fn := fun _ => fun
  | [d1, d2, d3] => { results := [.lit (.bool false)], args := [d1, d2, d3] }
  | _ => none }
def RoleMoreWrongFalsely : Prop := roleMoreRow.holds Try.pinned (OpenSpec.ofChange roleMoreWrong)

/-- 'bargatelaw10.TreePlays': WHATEVER THE INPUT: true; the input reads as it did. -/
def treePlaysSpec : ChangeSpec := { name := "treePlays", fn := fun _ => fun
  | [d1, d2, d3] => { results := [.lit (.bool true)], args := [d1, d2, d3] }
  | _ => none }
def treePlaysRow : OpenClaim := { program := "ytaepjiakehkeoaa", sum := "b2408fa6e58e73e02e091a82e5028a804d1b59eb0e4009baae66e334ac2955ac", func := "bargate/bargatelaw10.TreePlays", spec := "treePlays", apart := false }
def TreePlaysSaid : Prop := treePlaysRow.holds Try.pinned (OpenSpec.ofChange treePlaysSpec)

/-- ITS FALSE NEIGHBOUR: 'it returns false'. Refute it at one input. -/
def treePlaysWrong : ChangeSpec := { name := "treePlays", fn := fun _ => fun
  | [d1, d2, d3] => { results := [.lit (.bool false)], args := [d1, d2, d3] }
  | _ => none }
def TreePlaysWrongFalsely : Prop := treePlaysRow.holds Try.pinned (OpenSpec.ofChange treePlaysWrong)

/-- 'bargatelaw10.TreeStates': WHATEVER THE INPUT: true; the input reads as it did. -/
def treeStatesSpec : ChangeSpec := { name := "treeStates", fn := fun _ => fun
  | [d1, d2, d3] => { results := [.lit (.bool true)], args := [d1, d2, d3] }
  | _ => none }
def treeStatesRow : OpenClaim := { program := "ytaepjiakehkeoaa", sum := "b2408fa6e58e73e02e091a82e5028a804d1b59eb0e4009baae66e334ac2955ac", func := "bargate/bargatelaw10.TreeStates", spec := "treeStates", apart := false }
def TreeStatesSaid : Prop := treeStatesRow.holds Try.pinned (OpenSpec.ofChange treeStatesSpec)

/-- ITS FALSE NEIGHBOUR: 'it returns false'. Refute it at one input. -/
def treeStatesWrong : ChangeSpec := { name := "treeStates", fn := fun _ => fun
  | [d1, d2, d3] => { results := [.lit (.bool false)], args := [d1, d2, d3] }
  | _ => none }
def TreeStatesWrongFalsely : Prop := treeStatesRow.holds Try.pinned (OpenSpec.ofChange treeStatesWrong)

/-- 'bargatelaw10.TreeAlone': WHATEVER THE INPUT: true; the input reads as it did. -/
def treeAloneSpec : ChangeSpec := { name := "treeAlone", fn := fun _ => fun
  | [d1, d2] => { results := [.lit (.bool true)], args := [d1, d2] }
  | _ => none }
def treeAloneRow : OpenClaim := { program := "ytaepjiakehkeoaa", sum := "b2408fa6e58e73e02e091a82e5028a804d1b59eb0e4009baae66e334ac2955ac", func := "bargate/bargatelaw10.TreeAlone", spec := "treeAlone", apart := false }
def TreeAloneSaid : Prop := treeAloneRow.holds Try.pinned (OpenSpec.ofChange treeAloneSpec)

/-- ITS FALSE NEIGHBOUR: 'it returns false'. Refute it at one input. -/
def treeAloneWrong : ChangeSpec := { name := "treeAlone", fn := fun _ => fun
  | [d1, d2] => { results := [.lit (.bool false)], args := [d1, d2] }
  | _ => none }
def TreeAloneWrongFalsely : Prop := treeAloneRow.holds Try.pinned (OpenSpec.ofChange treeAloneWrong)

/-- 'bargatelaw10.TreePair': WHATEVER THE INPUT: true; the input reads as it did. -/
def treePairSpec : ChangeSpec := { name := "treePair", fn := fun _ => fun
  | [d1, d2, d3] => { results := [.lit (.bool true)], args := [d1, d2, d3] }
  | _ => none }
def treePairRow : OpenClaim := { program := "ytaepjiakehkeoaa", sum := "b2408fa6e58e73e02e091a82e5028a804d1b59eb0e4009baae66e334ac2955ac", func := "bargate/bargatelaw10.TreePair", spec := "treePair", apart := false }
def TreePairSaid : Prop := treePairRow.holds Try.pinned (OpenSpec.ofChange treePairSpec)

/-- ITS FALSE NEIGHBOUR: 'it returns false'. Refute it at one input. -/
def treePairWrong : ChangeSpec := { name := "treePair", fn := fun _ => fun
  | [d1, d2, d3] => { results := [.lit (.bool false)], args := [d1, d2, d3] }
  | _ => none }
def TreePairWrongFalsely : Prop := treePairRow.holds Try.pinned (OpenSpec.ofChange treePairWrong)

/-- 'bargatelaw10.TreeForgets': WHATEVER THE INPUT: true; the input reads as it did. -/
def treeForgetsSpec : ChangeSpec := { name := "treeForgets", fn := fun _ => fun
  | [d1, d2] => { results := [.lit (.bool true)], args := [d1, d2] }
  | _ => none }
def treeForgetsRow : OpenClaim := { program := "ytaepjiakehkeoaa", sum := "b2408fa6e58e73e02e091a82e5028a804d1b59eb0e4009baae66e334ac2955ac", func := "bargate/bargatelaw10.TreeForgets", spec := "treeForgets", apart := false }
def TreeForgetsSaid : Prop := treeForgetsRow.holds Try.pinned (OpenSpec.ofChange treeForgetsSpec)

/-- ITS FALSE NEIGHBOUR: 'it returns false'. Refute it at one input. -/
def treeForgetsWrong : ChangeSpec := { name := "treeForgets", fn := fun _ => fun
  | [d1, d2] => { results := [.lit (.bool false)], args := [d1, d2] }
  | _ => none }
def TreeForgetsWrongFalsely : Prop := treeForgetsRow.holds Try.pinned (OpenSpec.ofChange treeForgetsWrong)

/-- 'bargatelaw10.TreeHello': WHATEVER THE INPUT: true; the input reads as it did. -/
def treeHelloSpec : ChangeSpec := { name := "treeHello", fn := fun _ => fun
  | [d1, d2, d3] => { results := [.lit (.bool true)], args := [d1, d2, d3] }
  | _ => none }
def treeHelloRow : OpenClaim := { program := "ytaepjiakehkeoaa", sum := "b2408fa6e58e73e02e091a82e5028a804d1b59eb0e4009baae66e334ac2955ac", func := "bargate/bargatelaw10.TreeHello", spec := "treeHello", apart := false }
def TreeHelloSaid : Prop := treeHelloRow.holds Try.pinned (OpenSpec.ofChange treeHelloSpec)

/-- ITS FALSE NEIGHBOUR: 'it returns false'. Refute it at one input. -/
def treeHelloWrong : ChangeSpec := { name := "treeHello", fn := fun _ => fun
  | [d1, d2, d3] => { results := [.lit (.bool false)], args := [d1, d2, d3] }
  | _ => none }
def TreeHelloWrongFalsely : Prop := treeHelloRow.holds Try.pinned (OpenSpec.ofChange treeHelloWrong)

/-- 'bargatelaw10.TreeLoop': WHATEVER THE INPUT: true; the input reads as it did. -/
def treeLoopSpec : ChangeSpec := { name := "treeLoop", fn := fun _ => fun
  | [d1, d2, d3] => { results := [.lit (.bool true)], args := [d1, d2, d3] }
  | _ => none }
def treeLoopRow : OpenClaim := { program := "ytaepjiakehkeoaa", sum := "b2408fa6e58e73e02e091a82e5028a804d1b59eb0e4009baae66e334ac2955ac", func := "bargate/bargatelaw10.TreeLoop", spec := "treeLoop", apart := false }
def TreeLoopSaid : Prop := treeLoopRow.holds Try.pinned (OpenSpec.ofChange treeLoopSpec)

/-- ITS FALSE NEIGHBOUR: 'it returns false'. Refute it at one input. -/
def treeLoopWrong : ChangeSpec := { name := "treeLoop", fn := fun _ => fun
  | [d1, d2, d3] => { results := [.lit (.bool false)], args := [d1, d2, d3] }
  | _ => none }
def TreeLoopWrongFalsely : Prop := treeLoopRow.holds Try.pinned (OpenSpec.ofChange treeLoopWrong)

/-- 'bargatelaw10.TreeDown': WHATEVER THE INPUT: true; the input reads as it did. -/
def treeDownSpec : ChangeSpec := { name := "treeDown", fn := fun _ => fun
  | [d1, d2, d3] => { results := [.lit (.bool true)], args := [d1, d2, d3] }
  | _ => none }
def treeDownRow : OpenClaim := { program := "ytaepjiakehkeoaa", sum := "b2408fa6e58e73e02e091a82e5028a804d1b59eb0e4009baae66e334ac2955ac", func := "bargate/bargatelaw10.TreeDown", spec := "treeDown", apart := false }
def TreeDownSaid : Prop := treeDownRow.holds Try.pinned (OpenSpec.ofChange treeDownSpec)

/-- ITS FALSE NEIGHBOUR: 'it returns false'. Refute it at one input. -/
def treeDownWrong : ChangeSpec := { name := "treeDown", fn := fun _ => fun
  | [d1, d2, d3] => { results := [.lit (.bool false)], args := [d1, d2, d3] }
  | _ => none }
def TreeDownWrongFalsely : Prop := treeDownRow.holds Try.pinned (OpenSpec.ofChange treeDownWrong)

/-- 'bargatelaw10.TreeEdge': WHATEVER THE INPUT: true; the input reads as it did. -/
def treeEdgeSpec : ChangeSpec := { name := "treeEdge", fn := fun _ => fun
  | [d1, d2] => { results := [.lit (.bool true)], args := [d1, d2] }
  | _ => none }
def treeEdgeRow : OpenClaim := { program := "ytaepjiakehkeoaa", sum := "b2408fa6e58e73e02e091a82e5028a804d1b59eb0e4009baae66e334ac2955ac", func := "bargate/bargatelaw10.TreeEdge", spec := "treeEdge", apart := false }
def TreeEdgeSaid : Prop := treeEdgeRow.holds Try.pinned (OpenSpec.ofChange treeEdgeSpec)

/-- ITS FALSE NEIGHBOUR: 'it returns false'. Refute it at one input. -/
def treeEdgeWrong : ChangeSpec := { name := "treeEdge", fn := fun _ => fun
  | [d1, d2] => { results := [.lit (.bool false)], args := [d1, d2] }
  | _ => none }
def TreeEdgeWrongFalsely : Prop := treeEdgeRow.holds Try.pinned (OpenSpec.ofChange treeEdgeWrong)

/-- 'bargatetop.WholeRoles': WHATEVER THE INPUT: true; the input reads as it did. -/
def wholeRolesSpec : ChangeSpec := { name := "wholeRoles", fn := fun _ => fun
  | [d1, d2] => { results := [.lit (.bool true)], args := [d1, d2] }
  | _ => none }
def wholeRolesRow : OpenClaim := { program := "ytaepjiakehkeoaa", sum := "b2408fa6e58e73e02e091a82e5028a804d1b59eb0e4009baae66e334ac2955ac", func := "bargate/bargatetop.WholeRoles", spec := "wholeRoles", apart := false }
def WholeRolesSaid : Prop := wholeRolesRow.holds Try.pinned (OpenSpec.ofChange wholeRolesSpec)

/-- ITS FALSE NEIGHBOUR: 'it returns false'. Refute it at one input. -/
def wholeRolesWrong : ChangeSpec := { name := "wholeRoles", fn := fun _ => fun
  | [d1, d2] => { results := [.lit (.bool false)], args := [d1, d2] }
  | _ => none }
def WholeRolesWrongFalsely : Prop := wholeRolesRow.holds Try.pinned (OpenSpec.ofChange wholeRolesWrong)

/- THE SECOND FORM. 'bulk': how many values and letters a reading holds, each counted each time it is reached (what is shared counts as often as it is met; a slice's spare places count too). A statement '..UptoSaid' is the law's where the arguments, and the package variables that the reading takes, are together of bulk at most 1048576: NARROWER than '..Said'. Prove '..Said' where nothing that the law and all that it calls make is longer than what came in: it says more and counts as full. Else prove '..UptoSaid'. A law counts once. -/
mutual
def uptoBulk {H : Type} : DataW H → Nat
  | .lit (.string bytes) => bytes.length + 1
  | .lit _ => 1
  | .nil => 1
  | .ptr d => uptoBulk d + 1
  | .slice elems spare => uptoBulkAll elems + uptoBulkAll spare + 1
  | .agg parts => uptoBulkAll parts + 1
  | .iface _ d => uptoBulk d + 1
  | .map entries => uptoBulkEntries entries + 1
  | .held _ => 1
def uptoBulkAll {H : Type} : List (DataW H) → Nat
  | [] => 0
  | d :: r => uptoBulk d + uptoBulkAll r
def uptoBulkEntries {H : Type} : List (Lit × DataW H) → Nat
  | [] => 0
  | x :: r => uptoBulkEntry x + uptoBulkEntries r
def uptoBulkEntry {H : Type} : Lit × DataW H → Nat
  | (.string bytes, d) => bytes.length + uptoBulk d + 1
  | (_, d) => uptoBulk d + 1
 end
def uptoSmall : (H : Type) → List (DataW H) → Bool := fun _ ds => decide (uptoBulkAll ds ≤ 1048576)
def OpenSpec.upto (s : _root_.Go.ChangeSpec) : _root_.Go.OpenSpec := { _root_.Go.OpenSpec.ofChange s with cond := some uptoSmall }

/-- 'bargatelaw09.RoleSelects', WHERE WHAT IT READS IS OF BULK AT MOST 1048576: true; the input reads as it did. -/
def roleSelectsUptoRow : OpenClaim := { program := "ytaepjiakehkeoaa", sum := "b2408fa6e58e73e02e091a82e5028a804d1b59eb0e4009baae66e334ac2955ac", func := "bargate/bargatelaw09.RoleSelects", spec := "roleSelects", apart := false, narrowed := true }
def RoleSelectsUptoSaid : Prop := roleSelectsUptoRow.holds Try.pinned (OpenSpec.upto roleSelectsSpec)

/-- 'bargatelaw09.RoleOne', WHERE WHAT IT READS IS OF BULK AT MOST 1048576: true; the input reads as it did. -/
def roleOneUptoRow : OpenClaim := { program := "ytaepjiakehkeoaa", sum := "b2408fa6e58e73e02e091a82e5028a804d1b59eb0e4009baae66e334ac2955ac", func := "bargate/bargatelaw09.RoleOne", spec := "roleOne", apart := false, narrowed := true }
def RoleOneUptoSaid : Prop := roleOneUptoRow.holds Try.pinned (OpenSpec.upto roleOneSpec)

/-- 'bargatelaw09.RoleDown', WHERE WHAT IT READS IS OF BULK AT MOST 1048576: true; the input reads as it did. -/
def roleDownUptoRow : OpenClaim := { program := "ytaepjiakehkeoaa", sum := "b2408fa6e58e73e02e091a82e5028a804d1b59eb0e4009baae66e334ac2955ac", func := "bargate/bargatelaw09.RoleDown", spec := "roleDown", apart := false, narrowed := true }
def RoleDownUptoSaid : Prop := roleDownUptoRow.holds Try.pinned (OpenSpec.upto roleDownSpec)

/-- 'bargatelaw09.RoleNames', WHERE WHAT IT READS IS OF BULK AT MOST 1048576: true; the input reads as it did. -/
def roleNamesUptoRow : OpenClaim := { program := "ytaepjiakehkeoaa", sum := "b2408fa6e58e73e02e091a82e5028a804d1b59eb0e4009baae66e334ac2955ac", func := "bargate/bargatelaw09.RoleNames", spec := "roleNames", apart := false, narrowed := true }
def RoleNamesUptoSaid : Prop := roleNamesUptoRow.holds Try.pinned (OpenSpec.upto roleNamesSpec)

/-- 'bargatelaw09.RoleMore', WHERE WHAT IT READS IS OF BULK AT MOST 1048576: true; the input reads as it did. -/
def roleMoreUptoRow : OpenClaim := { program := "ytaepjiakehkeoaa", sum := "b2408fa6e58e73e02e091a82e5028a804d1b59eb0e4009baae66e334ac2955ac", func := "bargate/bargatelaw09.RoleMore", spec := "roleMore", apart := false, narrowed := true }
def RoleMoreUptoSaid : Prop := roleMoreUptoRow.holds Try.pinned (OpenSpec.upto roleMoreSpec)

/-- 'bargatelaw10.TreePlays', WHERE WHAT IT READS IS OF BULK AT MOST 1048576: true; the input reads as it did. -/
def treePlaysUptoRow : OpenClaim := { program := "ytaepjiakehkeoaa", sum := "b2408fa6e58e73e02e091a82e5028a804d1b59eb0e4009baae66e334ac2955ac", func := "bargate/bargatelaw10.TreePlays", spec := "treePlays", apart := false, narrowed := true }
def TreePlaysUptoSaid : Prop := treePlaysUptoRow.holds Try.pinned (OpenSpec.upto treePlaysSpec)

/-- 'bargatelaw10.TreeStates', WHERE WHAT IT READS IS OF BULK AT MOST 1048576: true; the input reads as it did. -/
def treeStatesUptoRow : OpenClaim := { program := "ytaepjiakehkeoaa", sum := "b2408fa6e58e73e02e091a82e5028a804d1b59eb0e4009baae66e334ac2955ac", func := "bargate/bargatelaw10.TreeStates", spec := "treeStates", apart := false, narrowed := true }
def TreeStatesUptoSaid : Prop := treeStatesUptoRow.holds Try.pinned (OpenSpec.upto treeStatesSpec)

/-- 'bargatelaw10.TreeAlone', WHERE WHAT IT READS IS OF BULK AT MOST 1048576: true; the input reads as it did. -/
def treeAloneUptoRow : OpenClaim := { program := "ytaepjiakehkeoaa", sum := "b2408fa6e58e73e02e091a82e5028a804d1b59eb0e4009baae66e334ac2955ac", func := "bargate/bargatelaw10.TreeAlone", spec := "treeAlone", apart := false, narrowed := true }
def TreeAloneUptoSaid : Prop := treeAloneUptoRow.holds Try.pinned (OpenSpec.upto treeAloneSpec)

/-- 'bargatelaw10.TreePair', WHERE WHAT IT READS IS OF BULK AT MOST 1048576: true; the input reads as it did. -/
def treePairUptoRow : OpenClaim := { program := "ytaepjiakehkeoaa", sum := "b2408fa6e58e73e02e091a82e5028a804d1b59eb0e4009baae66e334ac2955ac", func := "bargate/bargatelaw10.TreePair", spec := "treePair", apart := false, narrowed := true }
def TreePairUptoSaid : Prop := treePairUptoRow.holds Try.pinned (OpenSpec.upto treePairSpec)

/-- 'bargatelaw10.TreeForgets', WHERE WHAT IT READS IS OF BULK AT MOST 1048576: true; the input reads as it did. -/
def treeForgetsUptoRow : OpenClaim := { program := "ytaepjiakehkeoaa", sum := "b2408fa6e58e73e02e091a82e5028a804d1b59eb0e4009baae66e334ac2955ac", func := "bargate/bargatelaw10.TreeForgets", spec := "treeForgets", apart := false, narrowed := true }
def TreeForgetsUptoSaid : Prop := treeForgetsUptoRow.holds Try.pinned (OpenSpec.upto treeForgetsSpec)

/-- 'bargatelaw10.TreeHello', WHERE WHAT IT READS IS OF BULK AT MOST 1048576: true; the input reads as it did. -/
def treeHelloUptoRow : OpenClaim := { program := "ytaepjiakehkeoaa", sum := "b2408fa6e58e73e02e091a82e5028a804d1b59eb0e4009baae66e334ac2955ac", func := "bargate/bargatelaw10.TreeHello", spec := "treeHello", apart := false, narrowed := true }
def TreeHelloUptoSaid : Prop := treeHelloUptoRow.holds Try.pinned (OpenSpec.upto treeHelloSpec)

/-- 'bargatelaw10.TreeLoop', WHERE WHAT IT READS IS OF BULK AT MOST 1048576: true; the input reads as it did. -/
def treeLoopUptoRow : OpenClaim := { program := "ytaepjiakehkeoaa", sum := "b2408fa6e58e73e02e091a82e5028a804d1b59eb0e4009baae66e334ac2955ac", func := "bargate/bargatelaw10.TreeLoop", spec := "treeLoop", apart := false, narrowed := true }
def TreeLoopUptoSaid : Prop := treeLoopUptoRow.holds Try.pinned (OpenSpec.upto treeLoopSpec)

/-- 'bargatelaw10.TreeDown', WHERE WHAT IT READS IS OF BULK AT MOST 1048576: true; the input reads as it did. -/
def treeDownUptoRow : OpenClaim := { program := "ytaepjiakehkeoaa", sum := "b2408fa6e58e73e02e091a82e5028a804d1b59eb0e4009baae66e334ac2955ac", func := "bargate/bargatelaw10.TreeDown", spec := "treeDown", apart := false, narrowed := true }
def TreeDownUptoSaid : Prop := treeDownUptoRow.holds Try.pinned (OpenSpec.upto treeDownSpec)

/-- 'bargatelaw10.TreeEdge', WHERE WHAT IT READS IS OF BULK AT MOST 1048576: true; the input reads as it did. -/
def treeEdgeUptoRow : OpenClaim := { program := "ytaepjiakehkeoaa", sum := "b2408fa6e58e73e02e091a82e5028a804d1b59eb0e4009baae66e334ac2955ac", func := "bargate/bargatelaw10.TreeEdge", spec := "treeEdge", apart := false, narrowed := true }
def TreeEdgeUptoSaid : Prop := treeEdgeUptoRow.holds Try.pinned (OpenSpec.upto treeEdgeSpec)

/-- 'bargatetop.WholeRoles', WHERE WHAT IT READS IS OF BULK AT MOST 1048576: true; the input reads as it did. -/
def wholeRolesUptoRow : OpenClaim := { program := "ytaepjiakehkeoaa", sum := "b2408fa6e58e73e02e091a82e5028a804d1b59eb0e4009baae66e334ac2955ac", func := "bargate/bargatetop.WholeRoles", spec := "wholeRoles", apart := false, narrowed := true }
def WholeRolesUptoSaid : Prop := wholeRolesUptoRow.holds Try.pinned (OpenSpec.upto wholeRolesSpec)

end Rows
end Go.Proofs.Ytaepjiakehkeoaa
