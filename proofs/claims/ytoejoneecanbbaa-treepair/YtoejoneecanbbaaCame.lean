
/-
  A slice of bytes that came in, as 'Bs'.
-/
import Derived.Test.YtoejoneecanbbaaMem
import Derived.OpenShut
namespace Go.Proofs.Ytoejoneecanbbaa
open Go.RowKit

/-- A slice of bytes that came in. -/
theorem bs_of_row {w : World} {a : Option Addr} {len cap : Nat} {zs : List Int}
    (h : (a = none ∧ len = 0 ∧ cap = 0 ∧ zs = []) ∨ ∃ x, a = some x ∧ len ≤ cap ∧ cap ≤ maxLen ∧ zs.length = cap ∧ (∀ i, i < zs.length → w.cell? (x.add i) = some (.int .u8 (zs.getD i 0))) ∧ ∀ n ∈ zs, (Lit.int .u8 n).wf = true) :
    Bs w (.slice a len cap) (zs.take len) ∧ (zs.take len).length = len := by
  rcases h with ⟨rfl, rfl, rfl, rfl⟩ | ⟨x, rfl, h1, h2, h3, h4, h5⟩
  · exact ⟨Bs.nil w, rfl⟩
  · have e : (zs.take len).length = len := by simp; omega
    refine ⟨⟨fun z hz => ?_, some x, cap, by rw [e], by omega, h2, (fun e => by cases e), fun i hi => ?_⟩, e⟩
    · exact bounds_u8 (h5 z (List.mem_of_mem_take hz))
    · rw [e] at hi
      obtain ⟨b, off, rfl, hc⟩ := ints_at h4 (by omega)
      refine ⟨b, off, rfl, ?_⟩
      have hg : (zs.take len).getD i 0 = zs.getD i 0 := by simp [List.getD_eq_getElem?_getD, hi]
      rw [hg]
      exact hc i (by omega)

end Go.Proofs.Ytoejoneecanbbaa
