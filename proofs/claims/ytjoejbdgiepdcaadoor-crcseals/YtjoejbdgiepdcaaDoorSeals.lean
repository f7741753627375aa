/-
  The walk of the statement CrcSeals: whatever the bytes, the place and the turn, it answers true and writes nothing that was there. Condition: the table lies as the program's text lays it.
-/
import Derived.Test.YtjoejbdgiepdcaaDoorSums
import Derived.Test.YtjoejbdgiepdcaaDoorCame
import Derived.BigQuiet
import Derived.Deep.QuietTactic
namespace Go.Proofs.YtjoejbdgiepdcaaDoor
open Go.RowKit

theorem xor_byte (x t : Int) (hx : 0 ≤ x ∧ x ≤ 255) (ht : 0 < t ∧ t ≤ 255) : (0 ≤ bits .xor .u8 x t ∧ bits .xor .u8 x t ≤ 255) ∧ bits .xor .u8 x t ≠ x := by
  obtain ⟨x, rfl⟩ := Int.eq_ofNat_of_zero_le hx.1
  obtain ⟨t, rfl⟩ := Int.eq_ofNat_of_zero_le (Int.le_of_lt ht.1)
  rw [u8_xor_nat x t (by omega) (by omega)]
  have h1 : x ^^^ t < 2 ^ 8 := Nat.xor_lt_two_pow (by omega) (by omega)
  refine ⟨⟨by omega, by omega⟩, ?_⟩
  intro h
  have h2 : x ^^^ t = x := by exact_mod_cast h
  have h3 : x ^^^ (x ^^^ t) = x ^^^ x := by rw [h2]
  rw [← Nat.xor_assoc, Nat.xor_self, Nat.zero_xor] at h3
  omega

set_option maxRecDepth 100000 in
set_option maxHeartbeats 2000000 in
theorem Seals_walk {v : Value} {l : List Int} {w : World} (hv : Bs w v l) (hT : Tab w) (a t : Int) (ha1 : -9223372036854775808 ≤ a) (ha2 : a ≤ 9223372036854775807) (ht1 : 0 ≤ t) (ht2 : t ≤ 255) (hm : l.length ≤ maxLen) :
    Calls Tryd.prog 4 #[v, .int .i64 a, .int .u8 t] w fun e w' => e = .returned (.bool true) ∧ Below w.heap.size w w' := by
  have HV := hide hv
  have HT := hide hT
  have HBY := hide hv.byte
  obtain ⟨_, ad, cap, rfl, hcap⟩ := hv
  have hcap1 := hcap.1
  clear hcap hT
  unfold maxLen at hm
  by_cases h4 : 400 < l.length
  · go_enter Tryd.func4, Tryd.ntmps4
    go_wp2_with fail
    refine (sums_any w HT.out).mono ?_
    rintro e w1 ⟨rfl, hb1⟩
    go_wp2
    go_ret
    exact ⟨rfl, hb1⟩
  · have hsl := sealL_length l
    generalize hlen : l.length = len at *
    have HL := hide hlen
    have HSL := hide hsl
    clear hlen hsl
    go_enter Tryd.func4, Tryd.ntmps4
    go_wp2_with fail
    refine (sums_any w HT.out).mono ?_
    rintro e w1 ⟨rfl, hb1⟩
    have hv1 := HV.out.below hb1
    have hT1 := HT.out.later hb1
    go_wp2_with fail
    refine (Seal_own hv1 hT1 (by rw [HL.out]; omega)).mono ?_
    rw [HL.out]
    rintro e w2 ⟨rfl, hO2, hb2⟩
    have hT2 := hT1.later hb2
    have hv2 := hv1.below hb2
    have hW2 := hb1.trans (hb2.mono hb1.size)
    have hgs := hb1.size
    have hS2 : Bs w2 (.slice (some ⟨w1.heap.size, 0, none⟩) (len + 4) (len + 4)) (sealL l) := by
      have := Bs.own (l := sealL l) (by rw [HSL.out]; exact hO2) (sealL_byte HBY.out)
      rwa [HSL.out] at this
    generalize w1.heap.size = g at *
    clear hb1 hb2 hv1 hT1
    have hW2' := hide hW2
    have hgl : g < w2.heap.size := by
      obtain ⟨_, a', cap', e, _, _, _, h5⟩ := hS2
      simp only [Value.slice.injEq] at e
      obtain ⟨b, off, e', hc⟩ := h5 0 (by rw [HSL.out]; omega)
      rw [← e.1] at e'
      cases e'
      exact block_lt_of_cell hc
    clear hW2
    go_wp2_with fail
    have hOp := Open_long hS2 hT2 (by rw [HSL.out]; omega) (by rw [HSL.out]; omega)
    rw [HSL.out, show len + 4 - 4 = len by omega] at hOp
    refine hOp.mono ?_
    clear hOp
    rintro e w3 ⟨h3 | h3, hb3⟩
    · obtain ⟨_, rfl, hC3⟩ := h3
      have htk : (sealL l).take len = l := by
        unfold sealL
        rw [List.take_append_of_le_length (by rw [HL.out]; exact Nat.le_refl _), List.take_of_length_le (by rw [HL.out]; exact Nat.le_refl _)]
      rw [htk] at hC3
      have hS3 := hS2.below hb3
      have hO3 := hO2.keptBelow hb3
      have hT3 := hT2.later hb3
      have hv3 := hv2.below hb3
      have hW3 := hide (hW2'.out.trans (hb3.mono hW2'.out.size))
      have hgl3 : g < w3.heap.size := Nat.lt_of_lt_of_le hgl hb3.size
      generalize hg2 : w2.heap.size = g2 at *
      clear hg2 hS2 hO2 hT2 hv2 hb3 hW2' hgl
      obtain ⟨S, hS⟩ : ∃ S, S = bstr l := ⟨_, rfl⟩
      obtain ⟨S2, hS2⟩ : ∃ S2, S2 = bstr l := ⟨_, rfl⟩
      have hne : (S2.toList == S.toList) = true := by rw [hS, hS2]; simp
      have q1 : ∀ nq, (convert 24 9 (.slice (some ⟨g2, 0, none⟩) len len)).run Tryd.prog (w3.drewN nq) = .ok (.string S2) (w3.drewN nq) := fun nq => by rw [hS2]; exact conv_str 24 9 5 Tryd.underlying24 Tryd.underlying5 Tryd.underlying9 (hC3.below (below_drewN (Below.refl _ _) nq))
      have q2 : ∀ nq, (convert 24 9 (.slice ad len cap)).run Tryd.prog (w3.drewN nq) = .ok (.string S) (w3.drewN nq) := fun nq => by rw [hS]; exact conv_str 24 9 5 Tryd.underlying24 Tryd.underlying5 Tryd.underlying9 (hv3.below (below_drewN (Below.refl _ _) nq))
      have hfr : Bs w3 (.slice (some ⟨g, 0, none⟩) len (len + 4)) l := by
        have := hS3.headOf len (by omega) HSL.out
        rwa [htk] at this
      have q3 : ∀ nq, (convert 24 9 (.slice (some ⟨g, 0, none⟩) len (len + 4))).run Tryd.prog (w3.drewN nq) = .ok (.string S2) (w3.drewN nq) := fun nq => by rw [hS2]; exact conv_str 24 9 5 Tryd.underlying24 Tryd.underlying5 Tryd.underlying9 (hfr.below (below_drewN (Below.refl _ _) nq))
      have HS3 := hide hS3
      have HO3 := hide hO3
      have HT3 := hide hT3
      clear hS hS2 hC3 htk hS3 hO3 hT3 hv3 hfr
      go_wp2_with fail
      go_quiet (fail)
      have HO4 := hide (HO3.out.keptBelow (below_drewN (Below.refl _ _) nq))
      have HT4 := hide (HT3.out.later (below_drewN (Below.refl _ _) nq))
      have HW4 := hide (below_drewN hW3.out nq)
      have hgl4 : g < (w3.drewN nq).heap.size := hgl3
      clear q1 q2 q3 hne HS3 HO3 HT3 hW3 hgl3
      generalize hw4 : w3.drewN nq = w4 at *
      clear hw4
      rcases (show a < 0 ∨ (0 ≤ a ∧ t = 0) ∨ (0 ≤ a ∧ 0 < t) from by omega) with hc | ⟨hc, hc1⟩ | ⟨hc, hc1⟩
      · go_wp2
        go_ret
        exact ⟨rfl, HW4.out⟩
      · subst hc1
        go_wp2
        go_ret
        exact ⟨rfl, HW4.out⟩
      · obtain ⟨a, rfl⟩ := Int.eq_ofNat_of_zero_le hc
        have ht0 : (t == 0) = false := by rw [beq_eq_false_iff_ne]; omega
        have hi1 : 0 ≤ (a : Int) % ((len : Int) + 4) := Int.emod_nonneg _ (by omega)
        have hi2 : (a : Int) % ((len : Int) + 4) < (len : Int) + 4 := Int.emod_lt_of_pos _ (by omega)
        have hp : a % (len + 4) < len + 4 := Nat.mod_lt _ (by omega)
        have hxr := (sealL_byte HBY.out).getD (a % (len + 4))
        have hcell : w4.cell? ⟨g, a % (len + 4), none⟩ = some (.int .u8 ((sealL l).getD (a % (len + 4)) 0)) := by
          rw [HO4.out.cellAt (a % (len + 4)) (by omega), getElem?_map_u8 _ _ (by rw [HSL.out]; exact hp)]
        have hfz := HO4.out.frozenAt (a % (len + 4))
        have hxy := xor_byte _ t hxr ⟨hc1, ht2⟩
        have hch := hide (sealL_changed l (a % (len + 4)) _ (by rw [HL.out]; exact hp) HBY.out hxy.1 hxy.2)
        have hst := HO4.out.stored (a % (len + 4)) (.int .u8 (bits .xor .u8 ((sealL l).getD (a % (len + 4)) 0) t))
        rw [← List.map_set] at hst
        have HST := hide hst
        have hby2 := hide ((sealL_byte HBY.out).set (a % (len + 4)) _ hxy.1)
        generalize (sealL l).getD (a % (len + 4)) 0 = x at *
        clear hst hxy hxr
        go_wp2_with fail
        generalize a % (len + 4) = p at *
        generalize bits .xor .u8 x t = y at *
        have hb5 : Below w.heap.size w (w4.setCell ⟨g, p, none⟩ (.int .u8 y)) := HW4.out.setCell (p := ⟨g, p, none⟩) hgs _
        have hT5 : Tab (w4.setCell ⟨g, p, none⟩ (.int .u8 y)) := HT.out.later hb5
        have hlen5 : ((sealL l).set p y).length = len + 4 := by rw [List.length_set, HSL.out]
        have hS5 : Bs (w4.setCell ⟨g, p, none⟩ (.int .u8 y)) (.slice (some ⟨g, 0, none⟩) (len + 4) (len + 4)) ((sealL l).set p y) := by
          have := Bs.own (l := (sealL l).set p y) (by rw [hlen5]; exact HST.out.1) hby2.out
          rwa [hlen5] at this
        have hOp := Open_long hS5 hT5 (by rw [hlen5]; omega) (by rw [hlen5]; omega)
        have hch' := hch.out
        rw [HL.out] at hch'
        rw [hlen5, show len + 4 - 4 = len by omega] at hOp
        refine hOp.mono ?_
        rintro e w6 ⟨h6 | h6, hb6⟩
        · exact absurd h6.1 hch'
        · obtain ⟨_, rfl⟩ := h6
          have HW6 := hide (hb5.trans (hb6.mono hb5.size))
          clear hOp hb6 hb5 hT5 hlen5 hS5 hch' hcell hfz
          go_wp2
          go_ret
          exact ⟨rfl, HW6.out⟩
    · exfalso
      apply h3.1
      unfold sealL
      rw [List.take_append_of_le_length (by rw [HL.out]; exact Nat.le_refl _), List.take_of_length_le (by rw [HL.out]; exact Nat.le_refl _)]
end Go.Proofs.YtjoejbdgiepdcaaDoor
