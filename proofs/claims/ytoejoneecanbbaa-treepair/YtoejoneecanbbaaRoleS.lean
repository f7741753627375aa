
/-
  Contracts of role.Name and of the head of layer 9's statements (selects). Conditions: those that each theorem names.
-/
import Derived.Test.YtoejoneecanbbaaRole2
namespace Go.Proofs.Ytoejoneecanbbaa
open Go.RowKit
set_option linter.unusedVariables false
set_option maxRecDepth 20000

def nameS (n : Int) : ByteArray := if n = 0 then { data := #[100, 105, 115, 97, 98, 108, 101, 100] } else if n = 1 then { data := #[114, 111, 111, 116] } else if n = 2 then { data := #[100, 101, 115, 105, 103, 110, 97, 116, 101, 100] } else if n = 3 then { data := #[97, 108, 116, 101, 114, 110, 97, 116, 101] } else if n = 4 then { data := #[98, 97, 99, 107, 117, 112] } else { data := #[] }
@[reducible] def selP : List Rp := [⟨1, 10, true, false, Vc.zero⟩, ⟨2, 10, true, true, ⟨3, 0, 3, 7⟩⟩, ⟨3, 0, false, false, Vc.zero⟩]
end Go.Proofs.Ytoejoneecanbbaa
