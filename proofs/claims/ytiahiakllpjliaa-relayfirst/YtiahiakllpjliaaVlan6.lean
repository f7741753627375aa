/-
  The head of layer 11's statements (tells). Conditions: those that each theorem names.
-/
import Derived.Test.YtiahiakllpjliaaVlan5
namespace Go.Proofs.Ytiahiakllpjliaa
open Go.RowKit Go.Maps
set_option linter.unusedVariables false
set_option maxRecDepth 20000

@[reducible] def hdrA (tg : Bool) (pcp vid : Int) : Array Value := #[.int .u8 0, .int .u8 0, .int .u8 0, .int .u8 0, .int .u8 0, .int .u8 0, .int .u8 0, .int .u8 0, .int .u8 0, .int .u8 0, .int .u8 0, .int .u8 0, .bool tg, .int .i64 pcp, .bool false, .int .i64 vid, .int .i64 0, .bool false]
theorem hdr_is (tg : Bool) (pcp vid : Int) : HdIs (hdrA tg pcp vid) tg pcp vid := ⟨rfl, by simp [Value.oneCell'], rfl, rfl, rfl⟩
/-- Classify at a header of a tag alone. -/
theorem Class_hdr {w : World} {g pb mb c : Nat} {ps : List Pv} {f : Int → Option (Int × Int)} (h : Vt w g pb mb ps f c) (i : Int) (tg : Bool) (pcp vid : Int) (hv : I64 vid) (hp : ∀ p ∈ ps, I64 p.pvid) (v q e : Int) (hE : classN ps f i tg pcp vid = (v, q, e)) :
    Calls Try.prog 36 #[.pointer (some ⟨g, 0, none⟩), .int .i64 i, .agg (hdrA tg pcp vid)] w fun r w' => r = .returned (.tuple #[.int .i64 v, .int .i64 q, .int .i64 e]) ∧ Below w.heap.size w w' := by
  have := Class_any h i (hdrA tg pcp vid) tg pcp vid (hdr_is tg pcp vid) hv hp
  rw [hE] at this
  exact this
end Go.Proofs.Ytiahiakllpjliaa
