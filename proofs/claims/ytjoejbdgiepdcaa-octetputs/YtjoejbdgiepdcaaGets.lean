/-
  The walk of the statement OctetGets: whatever the bytes, the place and the count, it answers true and writes nothing that was there.
-/
import Derived.Test.YtjoejbdgiepdcaaLays
import Derived.OpenShut
namespace Go.Proofs.Ytjoejbdgiepdcaa
open Go.RowKit

/-- A slice of bytes that came in. -/
theorem bs_of_row {w : World} {a : Option Addr} {len cap : Nat} {zs : List Int}
    (h : (a = none ∧ len = 0 ∧ cap = 0 ∧ zs = []) ∨ ∃ x, a = some x ∧ len ≤ cap ∧ cap ≤ maxLen ∧ zs.length = cap ∧ (∀ i, i < zs.length → w.cell? (x.add i) = some (.int .u8 (zs.getD i 0))) ∧ ∀ n ∈ zs, (Lit.int .u8 n).wf = true) :
    Bs w (.slice a len cap) (zs.take len) ∧ (zs.take len).length = len := by
  rcases h with ⟨rfl, rfl, rfl, rfl⟩ | ⟨x, rfl, h1, h2, h3, h4, h5⟩
  · exact ⟨Bs.nil w, rfl⟩
  · have e : (zs.take len).length = len := by simp; omega
    refine ⟨⟨fun z hz => ?_, some x, cap, by rw [e], by omega, h2, (fun e => by cases e), fun i hi => ?_⟩, e⟩
    · exact bounds_u8 (h5 z (List.mem_of_mem_take hz))
    · rw [e] at hi
      obtain ⟨b, off, rfl, hc⟩ := ints_at h4 (by omega)
      refine ⟨b, off, rfl, ?_⟩
      have hg : (zs.take len).getD i 0 = zs.getD i 0 := by simp [List.getD_eq_getElem?_getD, hi]
      rw [hg]
      exact hc i (by omega)

theorem Gets_walk {v : Value} {l : List Int} {w : World} (hv : Bs w v l) (a k : Int) (ha1 : -9223372036854775808 ≤ a) (ha2 : a ≤ 9223372036854775807) (hk1 : -9223372036854775808 ≤ k) (hk2 : k ≤ 9223372036854775807) (hm : l.length ≤ maxLen) :
    Calls Try.prog 4 #[v, .int .i64 a, .int .i64 k] w fun e w' => e = .returned (.bool true) ∧ Below w.heap.size w w' := by
  have HV := hide hv
  obtain ⟨_, ad, cap, rfl, _⟩ := hv
  unfold maxLen at hm
  by_cases h5 : 500 < l.length
  · go_enter Try.func4, Try.ntmps4
    go_wp2_with fail
    refine (lays_any w).mono ?_
    rintro e w1 ⟨rfl, hb1⟩
    go_wp2
    go_ret
    exact ⟨rfl, hb1⟩
  · by_cases hr : (k < 1 ∨ 8 < k) ∨ a < 0
    · rcases (show k < 1 ∨ (1 ≤ k ∧ 8 < k) ∨ (1 ≤ k ∧ k ≤ 8 ∧ a < 0) from by omega) with hc | ⟨hc, hc'⟩ | ⟨hc, hc', hc''⟩
      all_goals
        have HR := hide hr
        clear hr
        go_enter Try.func4, Try.ntmps4
        go_wp2_with fail
        refine (lays_any w).mono ?_
        rintro e w1 ⟨rfl, hb1⟩
        go_wp2_with fail
        refine (Get_range _ _ _ _ HR.out).mono ?_
        rintro e w1' ⟨rfl, rfl⟩
        go_wp2
        go_ret
        exact ⟨rfl, hb1⟩
    · have ha : 0 ≤ a := by omega
      have h1 : 1 ≤ k := by omega
      have h8 : k ≤ 8 := by omega
      clear hr
      by_cases hs : (l.length : Int) < a + k
      · rcases (show (l.length : Int) < a ∨ (a ≤ l.length ∧ (l.length : Int) - a < k) from by omega) with hc | ⟨hc, hc'⟩
        all_goals
          go_enter Try.func4, Try.ntmps4
          go_wp2_with fail
          refine (lays_any w).mono ?_
          rintro e w1 ⟨rfl, hb1⟩
          have hv1 := HV.out.below hb1
          go_wp2_with fail
          refine (Get_less hv1 _ _ ha (by omega) h1 h8 hs (by omega)).mono ?_
          rintro e w1' ⟨rfl, rfl⟩
          go_wp2
          go_ret
          exact ⟨rfl, hb1⟩
      · obtain ⟨a, rfl⟩ := Int.eq_ofNat_of_zero_le ha
        obtain ⟨k, rfl⟩ := Int.eq_ofNat_of_zero_le (show 0 ≤ k by omega)
        rcases HV.out.cases with ⟨rfl, _⟩ | ⟨b, off, cap', hvv, h0, h3, h4, hc⟩
        · simp at hs; omega
        · cases hvv
          generalize hlen : l.length = len at *
          have HL := hide hlen
          clear hlen
          go_enter Try.func4, Try.ntmps4
          go_wp2_with fail
          refine (lays_any w).mono ?_
          rintro e w1 ⟨rfl, hb1⟩
          have hv1 := HV.out.below hb1
          have hc1 : ∀ i, i < l.length → w1.cell? ⟨b, off + i, none⟩ = some (.int .u8 (l.getD i 0)) := fun i hi => by
            rw [HL.out] at hi
            rw [hb1.cell (p := ⟨b, off + i, none⟩) (block_lt_of_cell (hc i hi))]; exact hc i hi
          have hp := Bs.piece hv1.byte (by rw [HL.out]; exact h3) h4 hc1 a (a + k) (by omega) (by rw [HL.out]; omega)
          have hlk : ((l.drop a).take (a + k - a)).length = k := by simp [HL.out]; omega
          rw [show a + k - a = k by omega] at hp hlk
          have HP := hide hp
          have HLK := hide hlk
          clear hp hlk hc1 hc
          go_wp2_with fail
          refine (Get_ok hv1 _ _ (by omega) (by omega) (by omega) (by rw [HL.out]; omega) (by rw [HL.out]; omega)).mono ?_
          rintro e w1' ⟨rfl, rfl⟩
          simp only [Int.toNat_natCast]
          have HV1 := hide hv1
          clear hv1
          go_wp2_with fail
          refine (Number_any HP.out (by rw [HLK.out]; omega) (by rw [HLK.out]; omega)).mono ?_
          rintro e w1'' ⟨rfl, rfl⟩
          go_wp2
          go_ret
          exact ⟨by simp, hb1⟩
end Go.Proofs.Ytjoejbdgiepdcaa
