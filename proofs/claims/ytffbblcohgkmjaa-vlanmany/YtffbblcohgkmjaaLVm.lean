/-
  VlanMany, walked. Conditions: those that each theorem names.
-/
import Derived.Test.YtffbblcohgkmjaaVlan6
namespace Go.Proofs.Ytffbblcohgkmjaa
open Go.RowKit Go.Maps
set_option linter.unusedVariables false
set_option maxRecDepth 20000

/-- The VLANs behind those up to j. -/
def manyF (j : Nat) : Int → Option (Int × Int) := fun k => if k = 1 then some (15, 15) else if 2 ≤ k ∧ k ≤ j then some (3, 0) else none
theorem manyF_step (j : Nat) (h : 1 ≤ j) : updK (manyF j) ((j + 1 : Nat) : Int) (some (3, 0)) = manyF (j + 1) := by
  funext k
  unfold updK manyF
  by_cases h1 : k = ((j + 1 : Nat) : Int)
  · rw [if_pos h1, if_neg (by omega), if_pos (by omega)]
  · rw [if_neg h1]
    by_cases h2 : k = 1
    · rw [if_pos h2, if_pos h2]
    · rw [if_neg h2, if_neg h2]
      by_cases h3 : 2 ≤ k ∧ k ≤ (j : Int)
      · rw [if_pos h3, if_pos (by omega)]
      · rw [if_neg h3, if_neg (by omega)]
theorem setB_many (j : Nat) (h : 1 ≤ j) (h2 : j < 4094) : setB 4 ((j + 1 : Nat) : Int) 3 0 = true := by
  have e1 : vidB ((j + 1 : Nat) : Int) = true := by simp [vidB]; omega
  have e2 : bits .andNot .i64 3 (allN 4) = 0 := by decide +kernel
  have e3 : bits .andNot .i64 0 3 = 0 := by decide +kernel
  unfold setB
  rw [e1, e2, e3]
  rfl
theorem setB_100 (m : Int) (h : 0 ≤ m) (h2 : m ≤ 5) : setB 4 (100 + m) 1 0 = true := by
  have e1 : vidB (100 + m) = true := by simp [vidB]; omega
  have e2 : bits .andNot .i64 1 (allN 4) = 0 := by decide +kernel
  have e3 : bits .andNot .i64 0 1 = 0 := by decide +kernel
  unfold setB
  rw [e1, e2, e3]
  rfl
set_option maxHeartbeats 4000000 in
theorem VMany_walk (n : Int) (w : World) : Calls Try.prog 5 #[.int .i64 n] w fun r w' => r = .returned (.bool true) ∧ Below w.heap.size w w' := by
  have hO := hide (tells11_any w)
  go_enter Try.func5, Try.ntmps5
  go_wp2_with fail
  refine hO.out.mono ?_
  rintro e w1 ⟨rfl, hb1⟩
  clear hO
  replace hb1 := hide hb1
  by_cases g1 : n < 0
  · go_wp2
    go_ret
    exact ⟨rfl, hb1.out⟩
  by_cases g2 : 5 < n
  · go_wp2
    go_ret
    exact ⟨rfl, hb1.out⟩
  go_wp2_with fail
  refine (VNew_any 4 w1).mono ?_
  rintro e w2 ⟨g, pb, mb, rfl, hV, hb2, hl1, hl2, hl3⟩
  have hn : portsN 4 = 4 := by decide +kernel
  have hF : newF 4 = manyF 1 := by
    funext k
    unfold newF manyF updK
    rw [if_neg (by decide)]
    by_cases h : k = 1
    · rw [if_pos h, if_pos h]; rfl
    · rw [if_neg h, if_neg h, if_neg (by omega)]
  rw [hn, hF] at hV
  have hB0 : Hid (Below w.heap.size w w2) := hb1.out.later hb2
  have hV0 : Hid (Vt w2 g pb mb (List.replicate 4 pvOne) (manyF 1) 1) := hV
  have hmb : Hid (w.heap.size ≤ mb) := by have := hb1.out.size; show _ ≤ _; omega
  clear hV hb2 hb1 hl1 hl2 hl3 hF hn
  go_wp2_with fail
  go_loopw [4] (fun v wr => ∃ j : Nat, 1 ≤ j ∧ j ≤ 64 ∧ v = .int .i64 (j + 1 : Nat) ∧ Hid (Below w.heap.size w wr) ∧ Hid (Vt wr g pb mb (List.replicate 4 pvOne) (manyF j) j)) (fun v _ => 66 - (intOf v).toNat)
  case atStart => exact ⟨1, by omega, by omega, rfl, hB0, hV0⟩
  case round =>
    obtain ⟨j, hj1, hj, rfl, hB, hV⟩ := hrel
    clear hB0 hV0
    by_cases hlt : j < 64
    · go_wp2_with fail
      refine (Set_ok hV.out ((j + 1 : Nat) : Int) 3 0 (setB_many j hj1 (by omega)) (by decide) (.inr hlt) (by omega)).mono ?_
      rintro e w3 ⟨rfl, hV3, hC3⟩
      have hB3 : Hid (Below w.heap.size w w3) := hC3.below hB.out hB.out.size (fun k e => by have := hmb.out; omega)
      rw [manyF_step j hj1, if_neg (by unfold manyF; rw [if_neg (by omega), if_neg (by omega)]; simp)] at hV3
      replace hV3 := hide hV3
      clear hC3 hB hV
      go_wp2
      go_roundw
      case rel => exact ⟨j + 1, by omega, by omega, by go_num, hB3, hV3⟩
      case measure => simp [intOf]; omega
    · obtain rfl : j = 64 := by omega
      go_wp2_with fail
      have hnn : (manyF 64 (100 + n)).isSome = false := by unfold manyF; rw [if_neg (by omega), if_neg (by omega)]; rfl
      have ht3 : (manyF 64 3).isSome = true := by decide +kernel
      refine (Set_full hV.out (100 + n) 1 0 (setB_100 n (by omega) (by omega)) (by decide) hnn (by omega) (by omega)).mono ?_
      rintro e w3 ⟨rfl, hb3⟩
      have hV3 := hide (hV.out.below hb3)
      have hB3 := hide (hB.out.later hb3)
      clear hV hB hb3
      go_wp2_with fail
      refine (Set_ok hV3.out 3 1 1 (by decide +kernel) (by decide) (.inl ht3) (by omega)).mono ?_
      rintro e w4 ⟨rfl, hV4, hC4⟩
      rw [if_pos ht3] at hV4
      have hB4 : Hid (Below w.heap.size w w4) := hC4.below hB3.out hB3.out.size (fun k e => by have := hmb.out; omega)
      replace hV4 := hide hV4
      clear hV3 hB3 hC4
      have ht4 : (updK (manyF 64) 3 (some (1, 1)) 4).isSome = true := by decide +kernel
      go_wp2_with fail
      refine (Set_del hV4.out 4 0 (by decide +kernel)).mono ?_
      rintro e w5 ⟨rfl, hV5, hC5⟩
      rw [if_pos ht4] at hV5
      have hB5 : Hid (Below w.heap.size w w5) := hC5.below hB4.out hB4.out.size (fun k e => by have := hmb.out; omega)
      replace hV5 := hide hV5
      clear hV4 hB4 hC5
      go_wp2_with fail
      refine (Set_ok hV5.out (100 + n) 1 0 (setB_100 n (by omega) (by omega)) (by decide) (.inr (by decide)) (by decide)).mono ?_
      rintro e w6 ⟨rfl, hV6, hC6⟩
      have hB6 : Hid (Below w.heap.size w w6) := hC6.below hB5.out hB5.out.size (fun k e => by have := hmb.out; omega)
      have hM4 := hide (Members_any hV6 4 (by simp [I64]))
      have hM5 := hide (Members_any hV6 (100 + n) ⟨by omega, by omega⟩)
      have e4 : memN (updK (updK (updK (manyF 64) 3 (some (1, 1))) 4 none) (100 + n) (some (1, 0))) 4 = 0 := by
        unfold memN
        rw [updK_other _ _ _ _ (by omega), updK_same]
        rfl
      have e5 : memN (updK (updK (updK (manyF 64) 3 (some (1, 1))) 4 none) (100 + n) (some (1, 0))) (100 + n) = 1 := by
        unfold memN
        rw [updK_same]
        rfl
      rw [e4] at hM4
      rw [e5] at hM5
      clear hV5 hB5 hV6 hC6 e4 e5
      go_wp2_with fail
      refine hM4.out.mono ?_
      rintro e w7 ⟨rfl, rfl⟩
      go_wp2_with fail
      refine hM5.out.mono ?_
      rintro e w7 ⟨rfl, rfl⟩
      go_wp2
      go_ret
      exact ⟨rfl, hB6.out⟩
end Go.Proofs.Ytffbblcohgkmjaa
