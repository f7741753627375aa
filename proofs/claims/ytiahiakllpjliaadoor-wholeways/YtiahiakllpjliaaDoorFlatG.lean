
/-
  Two bytes, as they came in. Conditions: those that each theorem names.
-/
import Derived.Test.YtiahiakllpjliaaDoorFlat
import Derived.OpenShut
namespace Go.Proofs.YtiahiakllpjliaaDoor
open Go.RowKit

theorem open_two8 {P : Program} {W : World} {r : Reach} {base : Nat} {v : Value} {tu8 t : TypeId} {d : TypeDesc} (hu8 : P.underlying tu8 = some (.int .u8)) (ht : P.underlying t = some d) (hd : (match d with | .struct _ | .array _ _ => true | _ => false) = true) (hts : P.cellTypes P.depth t = some [tu8, tu8]) (hc : P.cellsOf t = 2) (h : Value.okWide P W r base t v) : ∃ (x0 : Int) (x1 : Int), v = .agg #[.int .u8 x0, .int .u8 x1] ∧ (0 ≤ x0 ∧ x0 ≤ 255) ∧ (0 ≤ x1 ∧ x1 ≤ 255) := by
  obtain ⟨cs, rfl, hs, hall⟩ := okWide_row ht hd hts h
  rw [hc] at hs
  obtain ⟨u0, e0, c0⟩ := hall 0 cs[0] (Array.getElem?_eq_getElem (by omega))
  obtain rfl : tu8 = u0 := Option.some.inj e0
  obtain ⟨x0, y0, r0⟩ := cellOf_int hu8 c0
  obtain ⟨u1, e1, c1⟩ := hall 1 cs[1] (Array.getElem?_eq_getElem (by omega))
  obtain rfl : tu8 = u1 := Option.some.inj e1
  obtain ⟨x1, y1, r1⟩ := cellOf_int hu8 c1
  refine ⟨x0, x1, ?_, has_u8 r0, has_u8 r1⟩
  congr 1
  apply Array.ext (by simpa using hs)
  intro i h1 h2
  have hi : i < 2 := by omega
  rcases (show i = 0 ∨ i = 1 by omega) with rfl | rfl
  · exact y0
  · exact y1
end Go.Proofs.YtiahiakllpjliaaDoor
