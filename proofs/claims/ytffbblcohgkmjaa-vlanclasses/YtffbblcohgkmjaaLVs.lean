/-
  VlanSets and VlanClasses, walked. Conditions: those that each theorem names.
-/
import Derived.Test.YtffbblcohgkmjaaVlan8
import Derived.Test.YtffbblcohgkmjaaLVs0
namespace Go.Proofs.Ytffbblcohgkmjaa
open Go.RowKit

theorem of_is (m : Int) (b : Option Addr) (L cap : Nat) (xs : List Va) : Hid (∀ w' : World, Hid (Vas w' b L xs) → L ≤ 150 → OfIs w' m b L cap) := fun w' hX hL => of_any m b L cap xs w' hX hL
end Go.Proofs.Ytffbblcohgkmjaa
