/-
  A slice of pairs of uint64 that came in, opened.
-/
import Derived.Test.YtjoejbdgiepdcaaPacks
import Derived.Deep.Slices
namespace Go.Proofs.Ytjoejbdgiepdcaa
open Go.RowKit

theorem Try.cellsPair : Try.prog.cellsOf 44 = 2 := by kernel_rfl
theorem Try.cellsU64 : Try.prog.cellsOf 22 = 1 := by kernel_rfl

theorem prs_of_trod {H : Type} {enc : TypeId × Value → H} {W : World} {base : Nat} {spare : Nat → Bool} {held : Bool} {fuel : Nat} {a : Option Addr} {len cap : Nat} {x : DataW H × List MemPlace}
    (h : DataW.trod enc Try.prog W base spare held fuel 42 [.slice a len cap] = some x) : ∃ ps : List (Int × Int), ps.length ≤ maxLen ∧ Prs W (.slice a len cap) ps := by
  rcases Deep.open_slice Try.underlying42 h with ⟨hcs, _⟩ | ⟨ad, l, c, m, n, D, Pl, hcs, _, hlc, hcm, hmm, _, hel⟩
  · simp at hcs
    obtain ⟨rfl, rfl, rfl⟩ := hcs
    exact ⟨[], by simp, (by intro p hp; cases hp), none, 0, rfl, fun i hi => by simp at hi⟩
  · simp at hcs
    obtain ⟨rfl, rfl, rfl⟩ := hcs
    have hlm : len ≤ m := by rw [hmm]; split <;> omega
    have key : ∀ i, i < len → ∃ p : Int × Int, ((0 ≤ p.1 ∧ p.1 < 18446744073709551616) ∧ 0 ≤ p.2 ∧ p.2 < 18446744073709551616) ∧ W.cell? (ad.add (i * 2)) = some (.int .u64 p.1) ∧ W.cell? ((ad.add (i * 2)).add 1) = some (.int .u64 p.2) := by
      intro i hi
      obtain ⟨cs', hcells, htrod⟩ := hel i (by omega)
      rw [Try.cellsPair] at hcells
      obtain ⟨xs, f, _, _, hcl, hxl, hx⟩ := DataW.trod_array Try.underlying44 htrod
      rw [Try.cellsPair] at hcl
      match cs', hcl with
      | [c0, c1], _ =>
        have h0 := hx 0 (by omega)
        have h1 := hx 1 (by omega)
        simp only [Try.cellsU64] at h0 h1
        rw [List.getElem?_eq_getElem (by omega)] at h0 h1
        obtain ⟨n0, e0, _, w0⟩ := DataW.trod_int Try.underlying22 h0
        obtain ⟨n1, e1, _, w1⟩ := DataW.trod_int Try.underlying22 h1
        simp at e0 e1
        subst e0 e1
        have b0 := bounds_u64 w0
        have b1 := bounds_u64 w1
        obtain ⟨_, _, hget⟩ := World.cells?_some hcells
        have g0 := hget 0 (by omega)
        have g1 := hget 1 (by omega)
        refine ⟨(n0, n1), ⟨⟨b0.1, by simp only; omega⟩, b1.1, by simp only; omega⟩, ?_, ?_⟩
        · simpa [Addr.add] using g0
        · simpa using g1
    obtain ⟨f, hf⟩ := Deep.choose_lt key
    refine ⟨(List.range len).map f, by simp; omega, ?_, some ad, cap, by simp, fun i hi => ?_⟩
    · intro p hp
      simp only [List.mem_map, List.mem_range] at hp
      obtain ⟨i, hi, rfl⟩ := hp
      exact (hf i hi).1
    · simp only [List.length_map, List.length_range] at hi
      have hg : ((List.range len).map f).getD i (0, 0) = f i := by simp [hi]
      rw [hg]
      obtain ⟨_, h0, h1⟩ := hf i hi
      obtain ⟨b, off, spot⟩ := ad
      have hspot : spot = none := by
        have h00 := (hf 0 (by omega)).2.1
        simpa [Addr.add] using World.cell?_spot h00
      subst hspot
      refine ⟨b, off, rfl, ?_, ?_⟩
      · rw [Go.WideShapes.add_plain] at h0; exact h0
      · rw [Go.WideShapes.add_plain, Go.WideShapes.add_plain] at h1; exact h1
end Go.Proofs.Ytjoejbdgiepdcaa
