/-
  A header's cells by its two addresses. Conditions: those that each theorem names.
-/
import Derived.Test.YtiahiakllpjliaaDoorFdb1
import Derived.Test.YtiahiakllpjliaaDoorSls
namespace Go.Proofs.YtiahiakllpjliaaDoor
open Go.RowKit Go.Maps
set_option linter.unusedVariables false
set_option linter.unusedSimpArgs false
set_option maxRecDepth 20000

/-- A header's cells, of which the two addresses stand ahead. -/
structure HdMac (cs : Array Value) (dst src : M6) : Prop where
  size : cs.size = 18
  one : cs.all (·.oneCell') = true
  dst : ∀ (i : Nat) (u : Value), dst.row.toList[i]? = some u → cs[i]? = some u
  src : ∀ (i : Nat) (u : Value), src.row.toList[i]? = some u → cs[6 + i]? = some u
theorem hd_range {cs : Array Value} {w : World} {b o : Nat} {m : M6} (hb : w.heap[b]? = some (.cells cs 25 (0, 0))) (h : ∀ (i : Nat) (u : Value), m.row.toList[i]? = some u → cs[o + i]? = some u) : w.rangeAt b o m.row.toList := fun i u hi => (cell_of_row _ _ _ _ _ _ hb).trans (h i u hi)
/-- A header's cells. -/
@[reducible] def hdC (d s : M6) (tg : Bool) (pcp : Int) (dei : Bool) (vid ty : Int) (llc : Bool) : Array Value :=
  #[.int .u8 d.a, .int .u8 d.b, .int .u8 d.c, .int .u8 d.d, .int .u8 d.e, .int .u8 d.f, .int .u8 s.a, .int .u8 s.b, .int .u8 s.c, .int .u8 s.d, .int .u8 s.e, .int .u8 s.f, .bool tg, .int .i64 pcp, .bool dei, .int .i64 vid, .int .i64 ty, .bool llc]
theorem hdC_mac (d s : M6) (tg : Bool) (pcp : Int) (dei : Bool) (vid ty : Int) (llc : Bool) : HdMac (hdC d s tg pcp dei vid ty llc) d s := by
  refine ⟨rfl, by simp [Value.oneCell'], fun i u h => ?_, fun i u h => ?_⟩
  · match i, h with
    | 0, h => exact h
    | 1, h => exact h
    | 2, h => exact h
    | 3, h => exact h
    | 4, h => exact h
    | 5, h => exact h
    | i + 6, h => simp at h
  · match i, h with
    | 0, h => exact h
    | 1, h => exact h
    | 2, h => exact h
    | 3, h => exact h
    | 4, h => exact h
    | 5, h => exact h
    | i + 6, h => simp at h
instance decS (m : M6) : Decidable m.wf := by unfold M6.wf; exact inferInstance
end Go.Proofs.YtiahiakllpjliaaDoor
