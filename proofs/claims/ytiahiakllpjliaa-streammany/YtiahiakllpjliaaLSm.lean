/-
  The walk of StreamMany. Conditions: those that each theorem names.
-/
import Derived.Test.YtiahiakllpjliaaSm9
namespace Go.Proofs.Ytiahiakllpjliaa
open Go.RowKit Go.Maps
set_option linter.unusedVariables false
set_option linter.unusedSimpArgs false
set_option maxRecDepth 20000

def smF (i : Nat) : Sf := ⟨0, mNul, i, i⟩
def smL (j : Nat) : List Sf := (List.range j).map smF
theorem smL_len (j : Nat) : (smL j).length = j := by simp [smL]
theorem smL_mem {j : Nat} {e : Sf} (h : e ∈ smL j) : ∃ i, i < j ∧ e = smF i := by
  obtain ⟨i, hi, rfl⟩ := List.mem_map.1 h
  exact ⟨i, List.mem_range.1 hi, rfl⟩
theorem smL_sfs (j : Nat) (h : j ≤ 64) : Sfs (smL j) := ⟨by rw [smL_len]; omega, fun e he => by
  obtain ⟨i, _, rfl⟩ := smL_mem he
  exact (by decide : mNul.wf)⟩
theorem smL_any (j : Nat) (v : Int) (hv : ∀ i : Nat, i < j → (i : Int) ≠ v) : (smL j).any (thatB 0 mNul v) = false := by
  rw [List.any_eq_false]
  intro e he
  obtain ⟨i, hi, rfl⟩ := smL_mem he
  have := hv i hi
  simp [thatB, smF, this]
theorem smL_add (j : Nat) (h : j < 64) : addR (smL j) ⟨0, mNul, j, j⟩ = (0, smL (j + 1)) := by
  have h1 : mayF ⟨0, mNul, j, j⟩ = true := by simp [mayF]; omega
  unfold addR
  rw [if_neg (by rw [h1]; decide), if_neg (by rw [smL_any j j (fun i hi => by omega)]; decide), if_neg (by rw [smL_len]; omega)]
  unfold smL
  rw [List.range_succ, List.map_append]
  rfl
theorem smL_full (i : Nat) (h : i < 4) : addR (smL 64) ⟨0, mNul, 100 + i, 0⟩ = (20, smL 64) := by
  have h1 : mayF ⟨0, mNul, 100 + i, 0⟩ = true := by simp [mayF]; omega
  unfold addR
  rw [if_neg (by rw [h1]; decide), if_neg (by rw [smL_any 64 (100 + i) (fun k hk => by omega)]; decide), if_pos (by rw [smL_len]; omega)]
theorem smL_find : findS mNul mNul 63 (smL 64) = 0 := by
  have : smL 64 = smF 0 :: (List.range 63).map (fun i => smF (i + 1)) := by
    unfold smL
    rw [List.range_succ_eq_map, List.map_cons, List.map_map]; rfl
  unfold findS
  rw [this, List.find?_cons_of_pos (by simp [tellB, smF])]
  rfl
theorem smL_twice : addR (smL 64) ⟨0, mNul, 5, 0⟩ = (22, smL 64) := by
  have h2 : (smL 64).any (thatB 0 mNul 5) = true := by
    rw [List.any_eq_true]
    exact ⟨smF 5, List.mem_map.2 ⟨5, by simp, rfl⟩, by simp [thatB, smF]⟩
  unfold addR
  rw [if_neg (by decide), if_pos h2]
set_option maxHeartbeats 16000000 in
theorem Many_walk (more : Int) (w : World) : Calls Try.prog 10 #[.int .i64 more] w fun r w' => r = .returned (.bool true) ∧ Below w.heap.size w w' := by
  have hk := hide (finds_any w)
  go_enter Try.func10, Try.ntmps10
  go_wp2_with fail
  refine hk.out.mono ?_
  rintro _ w1 ⟨rfl, hb1⟩
  have hB1 := hide hb1
  clear hk hb1
  by_cases h1 : more < 1
  · go_wp2
    go_ret
    exact ⟨rfl, hB1.out⟩
  by_cases h2 : 4 < more
  · go_wp2
    go_ret
    exact ⟨rfl, hB1.out⟩
  obtain ⟨n, rfl⟩ := Int.eq_ofNat_of_zero_le (show 0 ≤ more by omega)
  have hd1 : decide ((n : Int) < 1) = false := decide_eq_false h1
  have hd2 : decide ((4 : Int) < (n : Int)) = false := decide_eq_false h2
  have hn4 : n ≤ 4 := by omega
  have hF0 := hide (Fso.new w1 w.heap.size (fun _ => False) (fun k h => h.elim) hB1.out.size)
  have hz0 : Hid (Fso w.heap.size (fun _ => False) (w1.alloc (.cells #[.slice none 0 0] 69)) w1.heap.size (smL 0)) := hF0.out
  have hB2 := hide (hB1.out.trans ((below1 w1 (.cells #[.slice none 0 0] 69)).mono hB1.out.size))
  clear hF0 hB1
  go_wp2_with fail
  generalize w1.alloc (.cells #[.slice none 0 0] 69) = w2 at *
  generalize w1.heap.size = t at *
  clear w1
  go_loopw [14] (fun i wr => ∃ j : Nat, j ≤ 64 ∧ i = .int .i64 j ∧ Hid (Fso w.heap.size (fun _ => False) wr t (smL j)) ∧ Hid (Below w.heap.size w wr)) (fun i _ => 64 - (intOf i).toNat)
  case atStart => exact ⟨0, by omega, rfl, hz0, hB2⟩
  case round =>
    obtain ⟨j, hj, rfl, hF, hB⟩ := hrel
    clear hz0 hB2
    by_cases hlt : j < 64
    · have hL := hide (SoAdd hF.out (smL_sfs j (by omega)) ⟨0, mNul, j, j⟩ (show mNul.wf by decide))
      rw [smL_add j hlt] at hL
      go_wp2_with fail
      refine hL.out.mono ?_
      rintro _ w3 ⟨rfl, hFn, hBn, -⟩
      have hFf : Hid (Fso w.heap.size (fun _ => False) w3 t (smL (j + 1))) := hFn
      have hBf := hide (hB.out.trans hBn)
      clear hL hFn hBn hF hB
      go_wp2
      go_roundw
      case rel => exact ⟨j + 1, by omega, by go_num, hFf, hBf⟩
      case measure => simp [intOf]; omega
    · have hje : j = 64 := by omega
      rw [hje] at hF
      have hnl : decide ((j : Int) < 64) = false := decide_eq_false (by omega)
      clear hje
      go_wp2_with fail
      go_loopw [24] (fun i wr => ∃ q : Nat, q ≤ n ∧ i = .int .i64 q ∧ Hid (Fso w.heap.size (fun _ => False) wr t (smL 64)) ∧ Hid (Below w.heap.size w wr)) (fun i _ => n - (intOf i).toNat)
      case atStart => exact ⟨0, Nat.zero_le _, rfl, hF, hB⟩
      case round =>
        obtain ⟨q, hq, rfl, hF2, hB2⟩ := hrel
        clear hF hB
        by_cases hqn : q < n
        · have hL := hide (SoAdd hF2.out (smL_sfs 64 (by omega)) ⟨0, mNul, 100 + q, 0⟩ (show mNul.wf by decide))
          rw [smL_full q (by omega)] at hL
          go_wp2_with fail
          refine hL.out.mono ?_
          rintro _ w3 ⟨rfl, hFn, hBn, -⟩
          have hFf : Hid (Fso w.heap.size (fun _ => False) w3 t (smL 64)) := hFn
          have hBf := hide (hB2.out.trans hBn)
          clear hL hFn hBn hF2 hB2
          go_wp2
          go_roundw
          case rel => exact ⟨q + 1, by omega, by go_num, hFf, hBf⟩
          case measure => simp [intOf]; omega
        · have hL := hide (SoAll hF2.out (smL_sfs 64 (by omega)))
          go_wp2_with fail
          refine hL.out.mono ?_
          rintro _ w4 ⟨v', rfl, hS, hFn, hBn, -⟩
          obtain ⟨va, vc, rfl⟩ := hS.shape
          rw [smL_len]
          have hF4 := hide hFn
          have hB4 := hide (hB2.out.trans (hBn.mono hF2.out.size))
          clear hL hS hFn hBn hF2 hB2
          have hL := hide (SoFind hF4.out (smL_sfs 64 (by omega)) (hdC mNul mNul false 0 false 0 0 false) mNul mNul (hdC_mac _ _ _ _ _ _ _ _) 63 (by decide) (by decide))
          rw [smL_find] at hL
          go_wp2_with fail
          refine hL.out.mono ?_
          rintro _ w5 ⟨rfl, hFn, hBn⟩
          have hF5 := hide hFn
          have hB5 := hide (hB4.out.trans (hBn.mono hF4.out.size))
          clear hL hFn hBn hF4 hB4
          have hL := hide (SoAdd hF5.out (smL_sfs 64 (by omega)) ⟨0, mNul, 5, 0⟩ (show mNul.wf by decide))
          rw [smL_twice] at hL
          go_wp2_with fail
          refine hL.out.mono ?_
          rintro _ w6 ⟨rfl, hFn, hBn, -⟩
          have hB6 := hide (hB5.out.trans hBn)
          clear hL hFn hBn hF5 hB5
          go_wp2
          go_ret
          exact ⟨rfl, hB6.out⟩
end Go.Proofs.Ytiahiakllpjliaa
