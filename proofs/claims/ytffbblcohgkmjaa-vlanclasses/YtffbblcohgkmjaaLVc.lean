/-
  VlanClasses, walked. Conditions: those that each theorem names.
-/
import Derived.Test.YtffbblcohgkmjaaLVs
import Derived.Test.YtffbblcohgkmjaaLVc0
import Derived.Test.YtffbblcohgkmjaaFlatC
namespace Go.Proofs.Ytffbblcohgkmjaa
end Go.Proofs.Ytffbblcohgkmjaa
