/-
  VlanAll, walked. Conditions: those that each theorem names.
-/
import Derived.Test.YtffbblcohgkmjaaVlan6
namespace Go.Proofs.Ytffbblcohgkmjaa
open Go.RowKit Go.Maps
set_option linter.unusedVariables false
set_option maxRecDepth 20000

theorem class_one (n : Nat) (k : Nat) (hk : k < n) (f : Int → Option (Int × Int)) (tg : Bool) (pcp vid : Int) : classN (List.replicate n pvOne) f k tg pcp vid = (if tg = true ∧ vid ≠ 0 then vid else 1, if tg = true then pcp else 0, 0) := by
  unfold classN
  have h1 : hasP (List.replicate n pvOne).length k = true := by simp [hasP]; omega
  have h2 : (List.replicate n pvOne).getD (Int.toNat (k : Int)) Pv.zero = pvOne := by simp [hk]
  rw [if_pos h1, h2]
  cases tg
  · simp [classP, takesB, pvOne]
  · by_cases hv : vid = 0
    · simp [classP, takesB, pvOne, hv]
    · simp [classP, takesB, pvOne, hv]
theorem bit_all (n k : Nat) (h : k < n) (hn : n ≤ 16) : bitAt (allN n) k = true := by
  have : ∀ n : Fin 17, ∀ k : Fin 17, k.val < n.val → bitAt (allN n.val) (k.val : Int) = true := by decide +kernel
  exact this ⟨n, by omega⟩ ⟨k, by omega⟩ h
theorem pvOne_64 (n : Nat) : ∀ p ∈ List.replicate n pvOne, I64 p.pvid := fun p hp => by
  rw [List.eq_of_mem_replicate hp]; simp [I64]
set_option maxHeartbeats 4000000 in
theorem VAll_walk (n i q : Int) (w : World) : Calls Try.prog 6 #[.int .i64 n, .int .i64 i, .int .i64 q] w fun r w' => r = .returned (.bool true) ∧ Below w.heap.size w w' := by
  have hO := hide (tells11_any w)
  go_enter Try.func6, Try.ntmps6
  go_wp2_with fail
  refine hO.out.mono ?_
  rintro e w1 ⟨rfl, hb1⟩
  clear hO
  replace hb1 := hide hb1
  by_cases g1 : n < 1
  · go_wp2
    go_ret
    exact ⟨rfl, hb1.out⟩
  by_cases g2 : 16 < n
  · go_wp2
    go_ret
    exact ⟨rfl, hb1.out⟩
  by_cases g3 : i < 0
  · go_wp2
    go_ret
    exact ⟨rfl, hb1.out⟩
  by_cases g4 : n ≤ i
  · go_wp2
    go_ret
    exact ⟨rfl, hb1.out⟩
  by_cases g5 : q < 0
  · go_wp2
    go_ret
    exact ⟨rfl, hb1.out⟩
  by_cases g6 : 7 < q
  · go_wp2
    go_ret
    exact ⟨rfl, hb1.out⟩
  obtain ⟨m, rfl⟩ := Int.eq_ofNat_of_zero_le (show 0 ≤ n by omega)
  obtain ⟨k, rfl⟩ := Int.eq_ofNat_of_zero_le (show 0 ≤ i by omega)
  have hkm : k < m := by omega
  have hm16 : m ≤ 16 := by omega
  go_wp2_with fail
  refine (VNew_any m w1).mono ?_
  rintro e w2 ⟨g, pb, mb, rfl, hV, hb2, hl1, hl2, hl3⟩
  have hn : portsN m = m := by unfold portsN; omega
  rw [hn] at hV
  have hB2 := hide (hb1.out.later hb2)
  have hC1 := hide (Class_hdr hV k false 0 0 (by simp [I64]) (pvOne_64 m) 1 0 0 (by rw [class_one m k hkm]; rfl))
  clear hb1 hb2 hn
  go_wp2_with fail
  refine hC1.out.mono ?_
  rintro e w3 ⟨rfl, hb3⟩
  have hV3 := hV.below hb3
  have hB3 := hide (hB2.out.later hb3)
  have hC2 := hide (Class_hdr hV3 k true q 0 (by simp [I64]) (pvOne_64 m) 1 q 0 (by rw [class_one m k hkm]; rfl))
  clear hC1 hV hb3 hB2
  go_wp2_with fail
  refine hC2.out.mono ?_
  rintro e w4 ⟨rfl, hb4⟩
  have hV4 := hV3.below hb4
  have hB4 := hide (hB3.out.later hb4)
  have hC3 := hide (Class_hdr hV4 k true q 7 (by simp [I64]) (pvOne_64 m) 7 q 0 (by rw [class_one m k hkm]; rfl))
  clear hC2 hV3 hb4 hB3
  go_wp2_with fail
  refine hC3.out.mono ?_
  rintro e w5 ⟨rfl, hb5⟩
  have hV5 := hV4.below hb5
  have hB5 := hide (hB4.out.later hb5)
  have hM := hide (Member_any hV5 1 k (by simp [I64]))
  have hP := hide (Plain_any hV5 1 (by simp [I64]))
  have hQ := hide (Members_any hV5 1 (by simp [I64]))
  have hR := hide (Members_any hV5 7 (by simp [I64]))
  have hm0 : m ≠ 0 := by omega
  have hF : newF m = updK (fun _ => none) 1 (some (allN m, allN m)) := by unfold newF; rw [if_neg hm0]
  have e1 : memN (newF m) 1 = allN m := by unfold memN; rw [hF, updK_same]; rfl
  have e2 : plnN (newF m) 1 = allN m := by unfold plnN; rw [hF, updK_same]; rfl
  have e3 : memN (newF m) 7 = 0 := by unfold memN; rw [hF, updK_other _ _ _ _ (by decide)]; rfl
  rw [e1, bit_all m k hkm hm16, show hasP (List.replicate m pvOne).length k = true by simp [hasP]; omega] at hM
  rw [e2] at hP
  rw [e1] at hQ
  rw [e3] at hR
  clear hC3 hV4 hV5 hb5 hB4 e1 e2 e3 hF
  generalize allN m = A at *
  have hqq : (q == q) = true := by simp
  have hAA : (A == A) = true := by simp
  go_wp2_with fail
  refine hM.out.mono ?_
  rintro e w6 ⟨rfl, rfl⟩
  go_wp2_with fail
  refine hP.out.mono ?_
  rintro e w6 ⟨rfl, rfl⟩
  go_wp2_with fail
  refine hQ.out.mono ?_
  rintro e w6 ⟨rfl, rfl⟩
  go_wp2_with fail
  refine hR.out.mono ?_
  rintro e w6 ⟨rfl, rfl⟩
  go_wp2
  go_ret
  exact ⟨rfl, hB5.out⟩
end Go.Proofs.Ytffbblcohgkmjaa
