/-
  The walks of MeterBack and MeterSteady. Conditions: those that each theorem names.
-/
import Derived.Test.YtmacdghkbmjdmaaMr4
namespace Go.Proofs.Ytmacdghkbmjdmaa
open Go.RowKit
set_option linter.unusedVariables false
set_option maxRecDepth 20000

theorem takeM_now (M : Mm) (x : Int) : (takeM M x).now = M.now := by unfold takeM; split <;> (try split) <;> rfl
theorem countM_now (M : Mm) (x : Int) : (countM M x).now = M.now := by unfold countM; split <;> (try split) <;> rfl
theorem passM_now (M : Mm) (now : Int) : now ≤ (passM M now).now := by
  unfold passM
  split
  · assumption
  · exact Int.le_refl _
theorem markM_now (M : Mm) (n now : Int) : now ≤ (markM M n now).now := by
  unfold markM
  rw [countM_now, takeM_now]
  exact passM_now M now
theorem passM_still (M : Mm) (now : Int) (h : now ≤ M.now) : passM M now = M := if_pos h
set_option maxHeartbeats 1000000 in
theorem Back_walk (c : Mc) (now back : Int) (w : World) (hn : -9223372036854775808 ≤ now ∧ now ≤ 9223372036854775807) (hk : -9223372036854775808 ≤ back ∧ back ≤ 9223372036854775807) :
    Calls Try.prog 6 #[.agg (fC c).toArray, .int .i64 now, .int .i64 back] w fun e w' => e = .returned (.bool true) ∧ Below w.heap.size w w' := by
  have hr := hide (heap_alloc_new w (.cells (fC c).toArray 23))
  have hb := hide (below1 w (.cells (fC c).toArray 23))
  have hc := hide (fun w => Check_any c w)
  have hz := cfgSize c
  have hN := hide (fun (h : c.may = true) w' (hb : Below w.heap.size w w') => ONew c h w w' hb)
  generalize hx : c.may = x at *
  replace hx := hide hx
  generalize newM c = M0 at *
  generalize (fC c).toArray = E at *
  go_enter Try.func6, Try.ntmps6
  go_wp2_with fail
  refine (marks_any _).mono ?_
  rintro e1 w2 ⟨rfl, hb2⟩
  have hr2 := hide (heap_kept hb2 hr.out)
  have hB2 := hide (hb.out.later hb2)
  clear hr hb hb2
  go_wp2_with ((with_reducible change wpList _ _ _ _ _ _); refine wpList_load_row rfl 23 (.tmp 3) rfl w.heap.size rfl 23 _ _ _ hr2.out Try.underlying23 rfl hz ?_)
  refine (hc.out _).mono ?_
  rintro e1 w3 ⟨rfl, hb3⟩
  have hr3 := hide (heap_kept hb3 hr2.out)
  have hB3 := hide (hB2.out.later hb3)
  clear hr2 hB2 hb3 hc
  cases x
  · simp only [Bool.false_eq_true, if_false]
    go_wp2
    go_ret
    exact ⟨rfl, hB3.out⟩
  simp only [if_true]
  by_cases h1 : now < 0
  · go_wp2
    go_ret
    exact ⟨rfl, hB3.out⟩
  by_cases h2 : 4611686018427387904 ≤ now
  · go_wp2
    go_ret
    exact ⟨rfl, hB3.out⟩
  by_cases h3 : back < 0
  · go_wp2
    go_ret
    exact ⟨rfl, hB3.out⟩
  by_cases h4 : now < back
  · go_wp2
    go_ret
    exact ⟨rfl, hB3.out⟩
  have hN3 := hide (hN.out rfl w3 hB3.out)
  clear hN
  go_wp2_with ((with_reducible change wpList _ _ _ _ _ _); refine wpList_load_row rfl 23 (.tmp 3) rfl w.heap.size rfl 23 _ _ _ hr3.out Try.underlying23 rfl hz ?_)
  refine hN3.out.mono ?_
  rintro e1 w4 ⟨t, rfl, H4⟩
  have hM := hide (OMark H4 (by decide) 1000 now hn.2)
  have hnow := hide (markM_now M0 1000 now)
  clear hN3 H4 hr3 hB3
  generalize markM M0 1000 now = M1 at *
  generalize markC M0 1000 now = cc at *
  go_wp2_with fail
  refine hM.out.mono ?_
  rintro e1 w5 ⟨rfl, H5⟩
  have hLv : Hid (∀ (w' : World) (y : Int), Om w w' t M1 (0 + 1) → y ≤ now → Calls Try.prog 19 #[.pointer (some ⟨t, 0, none⟩), .int .i64 y] w' fun e w'' => e = .returned (.tuple #[.int .i64 (M1.l0 / 8000000000), .int .i64 (M1.l1 / 8000000000)]) ∧ Om w w'' t M1 (0 + 1)) := fun w' y H hy => by
    have := OLevel H y (Int.le_trans hy hn.2)
    rwa [passM_still M1 y (Int.le_trans hy hnow.out)] at this
  clear hM hnow
  generalize M1.l0 / 8000000000 = p at *
  generalize M1.l1 / 8000000000 = q at *
  have hL := hide (hLv.out w5 now H5 (Int.le_refl _))
  clear H5
  go_wp2_with fail
  refine hL.out.mono ?_
  rintro e1 w6 ⟨rfl, H6⟩
  have hL2 := hide (hLv.out w6 (now - back) H6 (by omega))
  clear H6 hL
  go_wp2_with fail
  refine hL2.out.mono ?_
  rintro e1 w7 ⟨rfl, H7⟩
  have hL3 := hide (hLv.out w7 now H7 (Int.le_refl _))
  clear H7 hL2 hLv
  go_wp2_with fail
  refine hL3.out.mono ?_
  rintro e1 w8 ⟨rfl, H8⟩
  have hB := hide H8.bel
  clear hL3 H8
  go_wp2
  go_ret
  exact ⟨rfl, hB.out⟩
/-- Behind so many frames, each as great as the bucket. -/
def steadyM (r f each : Int) (j : Nat) : Mm := if j = 0 then ⟨r, f, f, 0, 0, 0, 0, 0, 0, 0⟩ else ⟨r, f, 0, 0, 0, 0, ((j : Int) - 1) * each, j, 0, 0⟩
theorem steady_step {r b : Int} (hr : 8 ≤ r) (hr2 : r ≤ 10000000000) (hb : 1 ≤ b) (hb2 : b ≤ 1522) (j : Nat) :
    markC (steadyM r (b * 8000000000) ((b * 8000000000 + r - 1) / r) j) b (j * ((b * 8000000000 + r - 1) / r)) = 0 ∧ markM (steadyM r (b * 8000000000) ((b * 8000000000 + r - 1) / r) j) b (j * ((b * 8000000000 + r - 1) / r)) = steadyM r (b * 8000000000) ((b * 8000000000 + r - 1) / r) (j + 1) := by
  have hneed : needN b = b * 8000000000 := by unfold needN; rw [if_neg (by omega), if_neg (by omega)]
  have he : 1 ≤ (b * 8000000000 + r - 1) / r := by rw [Int.le_ediv_iff_mul_le (by omega)]; omega
  have hfull : fillN r (b * 8000000000) 0 ((b * 8000000000 + r - 1) / r) = b * 8000000000 := by
    have h := fillN_le (r := r) (f := b * 8000000000) (l := 0) (n := (b * 8000000000 + r - 1) / r) (by omega) (by omega) (by omega)
    have h2 : b * 8000000000 ≤ r * ((b * 8000000000 + r - 1) / r) := by
      have := Int.mul_ediv_add_emod (b * 8000000000 + r - 1) r
      have := Int.emod_lt_of_pos (b * 8000000000 + r - 1) (show 0 < r by omega)
      omega
    unfold fillN at h ⊢
    split
    · rfl
    · rename_i hh
      rw [if_neg hh] at h
      omega
  generalize (b * 8000000000 + r - 1) / r = e at *
  have hpass : passM (steadyM r (b * 8000000000) e j) (j * e) = ⟨r, b * 8000000000, b * 8000000000, 0, 0, 0, j * e, j, 0, 0⟩ := by
    unfold steadyM passM
    by_cases hj : j = 0
    · subst hj
      simp
    · rw [if_neg hj]
      have : ¬ ((j : Int) * e ≤ ((j : Int) - 1) * e) := by rw [Int.sub_mul]; omega
      rw [if_neg this]
      simp only [Int.sub_mul, Int.one_mul]
      rw [show (j : Int) * e - (j * e - e) = e by omega, hfull]
      congr 1
      simp [fillN]
  have hC : markC (steadyM r (b * 8000000000) e j) b (j * e) = 0 := by
    unfold markC takeC
    rw [hpass, hneed]
    simp
  refine ⟨hC, ?_⟩
  unfold markM
  rw [hC, hpass, hneed]
  unfold takeM countM steadyM
  simp
theorem steady_counts (r f e : Int) (n : Nat) : (steadyM r f e n).c0 = n ∧ (steadyM r f e n).c1 = 0 ∧ (steadyM r f e n).c2 = 0 := by
  unfold steadyM
  split
  · rename_i h; subst h; exact ⟨rfl, rfl, rfl⟩
  · exact ⟨rfl, rfl, rfl⟩
set_option maxHeartbeats 1000000 in
theorem Steady_walk (r b n : Int) (w : World) (hr : -9223372036854775808 ≤ r ∧ r ≤ 9223372036854775807) (hb : -9223372036854775808 ≤ b ∧ b ≤ 9223372036854775807) (hn : -9223372036854775808 ≤ n ∧ n ≤ 9223372036854775807) :
    Calls Try.prog 7 #[.int .i64 r, .int .i64 b, .int .i64 n] w fun e w' => e = .returned (.bool true) ∧ Below w.heap.size w w' := by
  go_enter Try.func7, Try.ntmps7
  go_wp2_with fail
  refine (marks_any _).mono ?_
  rintro e1 w2 ⟨rfl, hb2⟩
  have hB2 := hide hb2
  clear hb2
  by_cases h1 : r < 8
  · go_wp2
    go_ret
    exact ⟨rfl, hB2.out⟩
  by_cases h2 : 10000000000 < r
  · go_wp2
    go_ret
    exact ⟨rfl, hB2.out⟩
  by_cases h3 : b < 1
  · go_wp2
    go_ret
    exact ⟨rfl, hB2.out⟩
  by_cases h4 : 1522 < b
  · go_wp2
    go_ret
    exact ⟨rfl, hB2.out⟩
  by_cases h5 : n < 0
  · go_wp2
    go_ret
    exact ⟨rfl, hB2.out⟩
  by_cases h6 : 300 < n
  · go_wp2
    go_ret
    exact ⟨rfl, hB2.out⟩
  obtain ⟨N, rfl⟩ := Int.eq_ofNat_of_zero_le (show 0 ≤ n by omega)
  have hN := hide (ONew ⟨r, b, 0, 0⟩ (by rw [may_iff]; dsimp only; omega) w w2 hB2.out)
  have hM0 : Hid (newM ⟨r, b, 0, 0⟩ = steadyM r (b * 8000000000) ((b * 8000000000 + r - 1) / r) 0) := rfl
  have hst := hide (fun j => steady_step (r := r) (b := b) (by omega) (by omega) (by omega) (by omega) j)
  have he : Hid (1 ≤ (b * 8000000000 + r - 1) / r ∧ (b * 8000000000 + r - 1) / r ≤ 3000000000000) := by
    have a1 : 1 ≤ (b * 8000000000 + r - 1) / r := by rw [Int.le_ediv_iff_mul_le (by omega)]; omega
    have a2 : (b * 8000000000 + r - 1) / r * r ≤ b * 8000000000 + r - 1 := Int.ediv_mul_le _ (by omega)
    have a3 : (b * 8000000000 + r - 1) / r * 8 ≤ (b * 8000000000 + r - 1) / r * r := Int.mul_le_mul_of_nonneg_left (by omega) (by omega)
    refine ⟨a1, ?_⟩
    omega
  rw [hM0.out] at hN
  clear hM0
  have hd : Hid ((b * 8 * 1000000000 + r - 1) / r = (b * 8000000000 + r - 1) / r) := by rw [show b * 8 * 1000000000 = b * 8000000000 by omega]; exact rfl
  have hct := hide (steady_counts r (b * 8000000000) ((b * 8000000000 + r - 1) / r))
  generalize (b * 8000000000 + r - 1) / r = E at *
  generalize b * 8000000000 = F at *
  go_wp2_with fail
  refine hN.out.mono ?_
  rintro e1 w3 ⟨t, rfl, H3⟩
  replace H3 := hide H3
  clear hN hB2
  have hN300 : N ≤ 300 := by omega
  go_wp2_with fail
  rw [hd.out]
  clear h1 h2 h3 h4 h5 h6 hr hb hn hd
  go_loopw [10, 53] (fun x i wr => ∃ j : Nat, j ≤ N ∧ i = .int .i64 j ∧ x = .int .i64 ((j : Int) * E) ∧ Hid (Om w wr t (steadyM r F E j) (j : Int))) (fun _ i _ => N - (intOf i).toNat)
  case atStart => exact ⟨0, Nat.zero_le _, rfl, by simp, H3⟩
  case round =>
    obtain ⟨j, hj, rfl, rfl, hO⟩ := hrel
    clear H3
    by_cases hlt : j < N
    · have hm : Hid (0 ≤ (j : Int) * E ∧ (j : Int) * E + E ≤ 1000000000000000) := by
        have a1 : (j : Int) * E ≤ 300 * E := Int.mul_le_mul_of_nonneg_right (by omega) (by have := he.out; omega)
        have a2 : 0 ≤ (j : Int) * E := Int.mul_nonneg (by omega) (by have := he.out; omega)
        have := he.out
        show _ ∧ _
        omega
      have hM := hide (OMark hO.out (by omega) b ((j : Int) * E) (by have := hm.out; have := he.out; omega))
      rw [(hst.out j).1, (hst.out j).2] at hM
      have hS : Hid (((j + 1 : Nat) : Int) * E = (j : Int) * E + E) := by rw [show ((j + 1 : Nat) : Int) = (j : Int) + 1 by omega, Int.add_mul, Int.one_mul]; exact rfl
      generalize (j : Int) * E = x at *
      obtain ⟨m1, m2⟩ := hm.out
      obtain ⟨q1, q2⟩ := he.out
      clear hO
      go_wp2_with fail
      refine hM.out.mono ?_
      rintro e1 w4 ⟨rfl, H4⟩
      replace H4 := hide H4
      clear hM
      go_wp2
      go_roundw
      case rel => exact ⟨j + 1, by omega, by go_num, by rw [hS.out], H4⟩
      case measure => simp [intOf]; omega
    · obtain rfl : j = N := by omega
      have hC := hide (OCounts hO.out)
      rw [(hct.out j).1, (hct.out j).2.1, (hct.out j).2.2] at hC
      have hq := three_eql (j : Int) 0 0 (by omega) (by decide) (by decide)
      clear hO
      go_wp2_with fail
      refine hC.out.mono ?_
      rintro e1 w5 ⟨rfl, H5⟩
      have hB := hide H5.bel
      clear hC H5
      go_wp2
      go_ret
      exact ⟨rfl, hB.out⟩
end Go.Proofs.Ytmacdghkbmjdmaa
