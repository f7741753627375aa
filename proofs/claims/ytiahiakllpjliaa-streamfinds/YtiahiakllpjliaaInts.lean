/-
  A row of numbers that came in ('Zs'). No Go text. Conditions: those that each theorem names.
-/
import Derived.Test.YtiahiakllpjliaaMem
import Derived.OpenShut
namespace Go.Proofs.Ytiahiakllpjliaa
open Go.RowKit

/-- A row of numbers in memory. -/
def Zs (w : World) (a : Option Addr) (n : Nat) (zs : List Int) : Prop := ∀ i, i < n → ∃ b off, a = some ⟨b, off, none⟩ ∧ w.cell? ⟨b, off + i, none⟩ = some (.int .i64 (zs.getD i 0))
theorem Zs.below {w w' : World} {a : Option Addr} {n : Nat} {zs : List Int} (h : Zs w a n zs) (hb : Below w.heap.size w w') : Zs w' a n zs := fun i hi => by
  obtain ⟨b, off, e, hc⟩ := h i hi
  exact ⟨b, off, e, (hb.cell (p := ⟨b, off + i, none⟩) (block_lt_of_cell hc)).trans hc⟩
theorem Zs_of_row {w : World} {a : Option Addr} {len cap : Nat} {zs : List Int}
    (h : (a = none ∧ len = 0 ∧ cap = 0 ∧ zs = []) ∨ ∃ x, a = some x ∧ len ≤ cap ∧ cap ≤ maxLen ∧ zs.length = cap ∧ (∀ i, i < zs.length → w.cell? (x.add i) = some (.int .i64 (zs.getD i 0))) ∧ ∀ n ∈ zs, (Lit.int .i64 n).wf = true) :
    Zs w a len zs ∧ len ≤ maxLen ∧ cap ≤ maxLen ∧ ∀ i, -9223372036854775808 ≤ zs.getD i 0 ∧ zs.getD i 0 ≤ 9223372036854775807 := by
  rcases h with ⟨rfl, rfl, rfl, rfl⟩ | ⟨x, rfl, h1, h2, h3, h4, h5⟩
  · exact ⟨fun i hi => by omega, Nat.zero_le _, Nat.zero_le _, fun i => by simp⟩
  · refine ⟨fun i hi => ?_, by omega, h2, fun i => ?_⟩
    · obtain ⟨b, off, rfl, hc⟩ := ints_at h4 (by omega)
      exact ⟨b, off, rfl, hc i (by omega)⟩
    · have hb := range_i64 h5 i
      rw [← List.getD_eq_getElem?_getD] at hb
      exact hb
end Go.Proofs.Ytiahiakllpjliaa
