/-
  The walk of the statement CrcSums: whatever the pieces, it answers true and writes nothing that was there. Condition: the table lies as the program's text lays it. And a slice of slices of bytes that came in, opened.
-/
import Derived.Test.YtjoejbdgiepdcaaDoorRefSum2
import Derived.Test.YtjoejbdgiepdcaaDoorSums
import Derived.Test.YtjoejbdgiepdcaaDoorCame
import Derived.Deep.Slices
import Derived.OpenShut
namespace Go.Proofs.YtjoejbdgiepdcaaDoor
open Go.ChangeShapes Go.WideShapes Go.ChangeAt Go.RowKit
set_option linter.unusedVariables false

theorem flat_le : ∀ (ls : List (List Int)), (∀ i, i < ls.length → (ls.getD i []).length ≤ 60) → ls.flatten.length ≤ 60 * ls.length
  | [], _ => by simp
  | x :: ls, h => by
    have h0 := h 0 (by simp)
    have ih := flat_le ls fun i hi => by
      have := h (i + 1) (by simpa using hi)
      simpa using this
    simp only [List.flatten_cons, List.length_append, List.length_cons]
    simp at h0
    omega

set_option maxRecDepth 100000 in
set_option maxHeartbeats 4000000 in
theorem SumsW_walk {v : Value} {ls : List (List Int)} {w : World} (hv : BBs w v ls) (hT : Tab w) (hm : ls.length ≤ maxLen) (hn : ∀ i, i < ls.length → (ls.getD i []).length ≤ maxLen) :
    Calls Tryd.prog 3 #[v] w fun e w' => e = .returned (.bool true) ∧ Below w.heap.size w w' := by
  have HV := hide hv
  have HT := hide hT
  have HN := hide hn
  clear hT hn
  obtain ⟨a, cap, vs, rfl, h1, h2, h3, h4, h5⟩ := hv
  have H5 := hide h5
  unfold maxLen at hm
  generalize hlen : ls.length = n at *
  have HL := hide hlen
  clear hlen h5 h3 h4 h2
  go_enter Tryd.func3, Tryd.ntmps3
  go_wp2_with fail
  refine (sums_any w HT.out).mono ?_
  rintro e w1 ⟨rfl, hb1⟩
  have HB1 := hide hb1
  clear hb1
  by_cases h20 : 20 < n
  · go_wp2
    go_ret
    exact ⟨rfl, HB1.out⟩
  · go_wp2
    go_loopw [12] (fun i wr => ∃ j : Nat, j ≤ n ∧ i = .int .i64 j ∧ Hid (∀ i, i < j → (ls.getD i []).length ≤ 60) ∧ wr = w1) (fun i _ => n - (intOf i).toNat)
    case atStart => exact ⟨0, Nat.zero_le _, rfl, fun i hi => by omega, rfl⟩
    case round =>
      obtain ⟨j, hj, rfl, HJ, rfl⟩ := hrel
      by_cases hlt : j < n
      · obtain ⟨b, off, rfl, hc, hBs⟩ := H5.out j hlt
        have hc1 : wr.cell? ⟨b, off + j, none⟩ = some (vs.getD j undef) := by rw [HB1.out.cell (p := ⟨b, off + j, none⟩) (block_lt_of_cell hc)]; exact hc
        have hx := HN.out j hlt
        unfold maxLen at hx
        have HJ1 : Hid ((ls.getD j []).length ≤ 60 → ∀ i, i < j + 1 → (ls.getD i []).length ≤ 60) := fun h i hi => by
          by_cases e : i = j
          · subst e; exact h
          · exact HJ.out i (by omega)
        obtain ⟨_, aj, capj, hvj, _⟩ := hBs
        rw [hvj] at hc1
        generalize (ls.getD j []).length = lj at *
        clear hc hvj
        by_cases h60 : 60 < lj
        · go_wp2
          go_ret
          exact ⟨rfl, HB1.out⟩
        · go_wp2
          go_roundw
          case rel => exact ⟨j + 1, by omega, by go_num, HJ1.out (by omega), trivial⟩
          case measure => simp [intOf]; omega
      · obtain rfl : j = n := by omega
        have hfl : Hid (ls.flatten.length ≤ 1200) := by
          have := flat_le ls (fun i hi => HJ.out i (by rw [HL.out] at hi; exact hi))
          rw [HL.out] at this
          show ls.flatten.length ≤ 1200
          omega
        have hsum := Sum_any (HV.out.below HB1.out) (HT.out.later HB1.out) (by rw [HL.out]; omega) (fun i hi => by
          have := HJ.out i (by rw [HL.out] at hi; exact hi)
          omega)
        have HS := hide hsum
        have hjoin := Join_any (HV.out.below HB1.out) (by rw [HL.out]; omega) (by have := hfl.out; omega)
        have HJn := hide hjoin
        clear hsum hjoin HJ
        go_wp2_with fail
        refine HS.out.mono ?_
        rintro e w2 ⟨rfl, rfl⟩
        clear HS
        go_wp2_with fail
        refine HJn.out.mono ?_
        rintro e w3 ⟨rfl, hB3, hb3⟩
        have hrs := RSum_any hB3 (by have := hfl.out; omega)
        have HRS := hide hrs
        have HB3 := hide (HB1.out.trans (hb3.mono HB1.out.size))
        clear HJn hB3 hb3 hrs
        generalize ls.flatten.length = fl at *
        generalize ((crcSum ls.flatten).toNat : Int) = sm at *
        go_wp2_with fail
        refine HRS.out.mono ?_
        rintro e w4 ⟨rfl, hb4⟩
        go_wp2
        go_ret
        exact ⟨by simp, HB3.out.trans (hb4.mono HB3.out.size)⟩

theorem Tryd.cellsBytes : Tryd.prog.cellsOf 24 = 1 := by kernel_rfl
theorem bbs_of_trod {H : Type} {enc : TypeId × Value → H} {W : World} {base : Nat} {held : Bool} {fuel : Nat} {a : Option Addr} {len cap : Nat} {x : DataW H × List MemPlace}
    (h : DataW.trod enc Tryd.prog W base (fun _ => true) held fuel 22 [.slice a len cap] = some x) : ∃ ls : List (List Int), BBs W (.slice a len cap) ls ∧ ls.length ≤ maxLen ∧ ∀ i, i < ls.length → (ls.getD i []).length ≤ maxLen := by
  rcases Deep.open_slice Tryd.underlying22 h with ⟨hcs, _⟩ | ⟨ad, l, c, m, n, D, Pl, hcs, _, hlc, hcm, hmm, _, hel⟩
  · simp at hcs
    obtain ⟨rfl, rfl, rfl⟩ := hcs
    exact ⟨[], ⟨none, 0, [], rfl, by simp, by simp [maxLen], fun _ => rfl, rfl, fun i hi => by simp at hi⟩, by simp, fun i hi => by simp at hi⟩
  · simp at hcs
    obtain ⟨rfl, rfl, rfl⟩ := hcs
    have hlm : len ≤ m := by rw [hmm]; split <;> omega
    have key : ∀ i, i < len → ∃ p : Value × List Int, W.cell? (ad.add i) = some p.1 ∧ Bs W p.1 p.2 ∧ p.2.length ≤ maxLen := by
      intro i hi
      obtain ⟨cs', hcells, htrod⟩ := hel i (by omega)
      rw [Tryd.cellsBytes, Nat.mul_one] at hcells
      obtain ⟨hlen1, _, hget⟩ := World.cells?_some hcells
      rcases open_ints Tryd.underlying24 Tryd.underlying5 (by kernel_rfl) htrod with ⟨hcs, _⟩ | ⟨y, l', c', zs, hcs, _, hl, hm, hz, _, hcell, hwz⟩
      · subst hcs
        have g0 := hget 0 (by simp)
        exact ⟨(.slice none 0 0, []), by simpa [Addr.add] using g0, Bs.nil W, by simp⟩
      · subst hcs
        have g0 := hget 0 (by simp)
        have hb := bs_of_row (w := W) (a := some y) (len := l') (cap := c') (zs := zs) (.inr ⟨y, rfl, hl, hm, by simpa using hz, hcell, hwz⟩)
        exact ⟨(.slice (some y) l' c', zs.take l'), by simpa [Addr.add] using g0, hb.1, by rw [hb.2]; omega⟩
    obtain ⟨f, hf⟩ := Deep.choose_lt key
    refine ⟨(List.range len).map fun i => (f i).2, ⟨some ad, cap, (List.range len).map fun i => (f i).1, by simp, by simp; omega, hcm, (fun e => by simp at e), by simp, fun i hi => ?_⟩, by simp; omega, fun i hi => ?_⟩
    · simp only [List.length_map, List.length_range] at hi
      have hg1 : ((List.range len).map fun i => (f i).1).getD i undef = (f i).1 := by simp [hi]
      have hg2 : ((List.range len).map fun i => (f i).2).getD i [] = (f i).2 := by simp [hi]
      rw [hg1, hg2]
      obtain ⟨h0, hB, _⟩ := hf i hi
      obtain ⟨b, off, spot⟩ := ad
      have hspot : spot = none := by
        have h00 := (hf 0 (by omega)).1
        simpa [Addr.add] using World.cell?_spot h00
      subst hspot
      refine ⟨b, off, rfl, ?_, hB⟩
      rw [Go.WideShapes.add_plain] at h0; exact h0
    · simp only [List.length_map, List.length_range] at hi
      have hg2 : ((List.range len).map fun i => (f i).2).getD i [] = (f i).2 := by simp [hi]
      rw [hg2]
      exact (hf i hi).2.2
end Go.Proofs.YtjoejbdgiepdcaaDoor
