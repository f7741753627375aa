/-
  The walk of the statement WholeSeals over numbers that came in.
-/
import Derived.Test.YtjoejbdgiepdcaaDoorWhole1
import Derived.OpenShut
namespace Go.Proofs.YtjoejbdgiepdcaaDoor
open Go.RowKit

theorem u64s_of_row {w : World} {a : Option Addr} {len cap : Nat} {zs : List Int}
    (h : (a = none ∧ len = 0 ∧ cap = 0 ∧ zs = []) ∨ ∃ x, a = some x ∧ len ≤ cap ∧ cap ≤ maxLen ∧ zs.length = cap ∧ (∀ i, i < zs.length → w.cell? (x.add i) = some (.int .u64 (zs.getD i 0))) ∧ ∀ n ∈ zs, (Lit.int .u64 n).wf = true) :
    len ≤ maxLen ∧ len ≤ zs.length ∧ ∀ i, i < len → (∃ b off, a = some ⟨b, off, none⟩ ∧ w.cell? ⟨b, off + i, none⟩ = some (.int .u64 (zs.getD i 0))) ∧ 0 ≤ zs.getD i 0 ∧ zs.getD i 0 < 18446744073709551616 := by
  rcases h with ⟨rfl, rfl, rfl, rfl⟩ | ⟨x, rfl, h1, h2, h3, h4, h5⟩
  · exact ⟨Nat.zero_le _, Nat.zero_le _, fun i hi => by omega⟩
  · refine ⟨by omega, by omega, fun i hi => ?_⟩
    obtain ⟨b, off, rfl, hc⟩ := ints_at h4 (by omega)
    have hm : zs.getD i 0 ∈ zs := by
      rw [List.getD_eq_getElem?_getD, List.getElem?_eq_getElem (by omega)]
      exact List.getElem_mem (by omega)
    have hb := bounds_u64 (h5 _ hm)
    exact ⟨⟨b, off, rfl, hc i (by omega)⟩, by omega, by omega⟩
theorem Whole2_walk {w : World} {a : Option Addr} {len cap : Nat} {zs : List Int}
    (h : (a = none ∧ len = 0 ∧ cap = 0 ∧ zs = []) ∨ ∃ x, a = some x ∧ len ≤ cap ∧ cap ≤ maxLen ∧ zs.length = cap ∧ (∀ i, i < zs.length → w.cell? (x.add i) = some (.int .u64 (zs.getD i 0))) ∧ ∀ n ∈ zs, (Lit.int .u64 n).wf = true)
    (hT : Tab w) (cut : Int) (hc1 : -9223372036854775808 ≤ cut) (hc2 : cut ≤ 9223372036854775807) :
    Calls Tryd.prog 8 #[.slice a len cap, .int .i64 cut] w fun e w' => e = .returned (.bool true) ∧ Below w.heap.size w w' :=
  Whole1_walk a len cap zs w hT cut hc1 hc2 (u64s_of_row h).1 (u64s_of_row h).2.1 (u64s_of_row h).2.2
end Go.Proofs.YtjoejbdgiepdcaaDoor
