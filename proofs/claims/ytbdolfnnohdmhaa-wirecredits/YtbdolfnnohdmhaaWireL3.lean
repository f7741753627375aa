/-
  The walk of the statement WireCredits: whatever the numbers, it answers true and writes nothing.
-/
import Derived.Test.YtbdolfnnohdmhaaWireT
namespace Go.Proofs.Ytbdolfnnohdmhaa
open Go.RowKit
set_option linter.unusedVariables false

theorem upD_least (m r : Int) (hm : 0 < m) (hm2 : m ≤ 9223372036854775807) (hr : 0 < r) :
    0 ≤ upD m r - 1 ∧ r * (upD m r - 1) < m ∧ m ≤ r * upD m r ∧ upD m r - 1 ≤ 9223372036854775807 / r ∧ upD m r ≤ 9223372036854775807 := by
  have e : upD m r - 1 = (m - 1) / r := by unfold upD; omega
  have h1 := upD_bounds m r hm hr
  have h2 := Int.mul_ediv_add_emod (m - 1) r
  have h3 := Int.emod_nonneg (m - 1) (show r ≠ 0 by omega)
  have h4 := Int.emod_lt_of_pos (m - 1) hr
  have e2 : r * upD m r = r * ((m - 1) / r) + r := by unfold upD; rw [Int.mul_add]; omega
  refine ⟨by omega, by rw [e]; omega, by omega, ?_, by omega⟩
  rw [e]
  exact Int.ediv_le_ediv hr (by omega)
theorem Cr_neg_B1 (r d m : Int) (w : World) (hr2 : r ≤ 9223372036854775807) (hm2 : m ≤ 9223372036854775807) (hr : r < 0) (hm : m ≤ 0) :
    Calls Try.prog 7 #[.int .i64 r, .int .i64 d, .int .i64 m] w fun r w' => r = .returned (.bool true) ∧ w' = w := by
  have H := hide (Credit_neg r d w (.inl hr))
  have H2 := hide (Until_none m r w hm)
  go_enter Try.func7, Try.ntmps7
  go_wp2_with fail
  refine (takes_any _).mono ?_
  rintro e w' ⟨rfl, rfl⟩
  go_wp2_with fail
  refine H.out.mono ?_
  rintro e w' ⟨rfl, rfl⟩
  go_wp2_with fail
  refine H2.out.mono ?_
  rintro e w' ⟨rfl, rfl⟩
  go_wp2
  go_ret
  exact ⟨rfl, rfl⟩
theorem Cr_neg_B2 (r d m : Int) (w : World) (hr2 : r ≤ 9223372036854775807) (hm2 : m ≤ 9223372036854775807) (hr : r < 0) (hm : 0 < m) :
    Calls Try.prog 7 #[.int .i64 r, .int .i64 d, .int .i64 m] w fun r w' => r = .returned (.bool true) ∧ w' = w := by
  have H := hide (Credit_neg r d w (.inl hr))
  have H2 := hide (Until_never m r w hm (by omega))
  go_enter Try.func7, Try.ntmps7
  go_wp2_with fail
  refine (takes_any _).mono ?_
  rintro e w' ⟨rfl, rfl⟩
  go_wp2_with fail
  refine H.out.mono ?_
  rintro e w' ⟨rfl, rfl⟩
  go_wp2_with fail
  refine H2.out.mono ?_
  rintro e w' ⟨rfl, rfl⟩
  go_wp2
  go_ret
  exact ⟨rfl, rfl⟩
theorem Cr_back_B1 (r d m : Int) (w : World) (hr2 : r ≤ 9223372036854775807) (hm2 : m ≤ 9223372036854775807) (hr : 0 ≤ r) (hd : d < 0) (hm : m ≤ 0) :
    Calls Try.prog 7 #[.int .i64 r, .int .i64 d, .int .i64 m] w fun r w' => r = .returned (.bool true) ∧ w' = w := by
  have H := hide (Credit_neg r d w (.inr hd))
  have H2 := hide (Until_none m r w hm)
  go_enter Try.func7, Try.ntmps7
  go_wp2_with fail
  refine (takes_any _).mono ?_
  rintro e w' ⟨rfl, rfl⟩
  go_wp2_with fail
  refine H.out.mono ?_
  rintro e w' ⟨rfl, rfl⟩
  go_wp2_with fail
  refine H2.out.mono ?_
  rintro e w' ⟨rfl, rfl⟩
  go_wp2
  go_ret
  exact ⟨rfl, rfl⟩
theorem Cr_back_B2 (r d m : Int) (w : World) (hr2 : r ≤ 9223372036854775807) (hm2 : m ≤ 9223372036854775807) (hr : 0 ≤ r) (hd : d < 0) (hm : 0 < m) (hz : r ≤ 0) :
    Calls Try.prog 7 #[.int .i64 r, .int .i64 d, .int .i64 m] w fun r w' => r = .returned (.bool true) ∧ w' = w := by
  have H := hide (Credit_neg r d w (.inr hd))
  have H2 := hide (Until_never m r w hm (by omega))
  go_enter Try.func7, Try.ntmps7
  go_wp2_with fail
  refine (takes_any _).mono ?_
  rintro e w' ⟨rfl, rfl⟩
  go_wp2_with fail
  refine H.out.mono ?_
  rintro e w' ⟨rfl, rfl⟩
  go_wp2_with fail
  refine H2.out.mono ?_
  rintro e w' ⟨rfl, rfl⟩
  go_wp2
  go_ret
  exact ⟨rfl, rfl⟩
theorem Cr_back_B3 (r d m : Int) (w : World) (hr2 : r ≤ 9223372036854775807) (hm2 : m ≤ 9223372036854775807) (hr : 0 ≤ r) (hd : d < 0) (hm : 0 < m) (hz : 0 < r) :
    Calls Try.prog 7 #[.int .i64 r, .int .i64 d, .int .i64 m] w fun r w' => r = .returned (.bool true) ∧ w' = w := by
  have H := hide (Credit_neg r d w (.inr hd))
  have H2 := hide (Until_ok m r w hm hm2 (by omega) hr2)
  obtain ⟨u1, u2, u3, u4, u5⟩ := upD_least m r hm hm2 (by omega)
  generalize upD m r = n at *
  have H3 := hide (Credit_ok r (n - 1) w (by omega) hr2 u1 u4)
  have hn : 1 ≤ n := by omega
  by_cases hf : n ≤ 9223372036854775807 / r
  · have H4 := hide (Credit_ok r n w (by omega) hr2 (by omega) hf)
    clear hf u4
    generalize r * (n - 1) = l at *
    generalize r * n = f at *
    go_enter Try.func7, Try.ntmps7
    go_wp2_with fail
    refine (takes_any _).mono ?_
    rintro e w' ⟨rfl, rfl⟩
    go_wp2_with fail
    refine H.out.mono ?_
    rintro e w' ⟨rfl, rfl⟩
    go_wp2_with fail
    refine H2.out.mono ?_
    rintro e w' ⟨rfl, rfl⟩
    go_wp2_with fail
    refine H3.out.mono ?_
    rintro e w' ⟨rfl, rfl⟩
    go_wp2_with fail
    refine H4.out.mono ?_
    rintro e w' ⟨rfl, rfl⟩
    go_wp2
    go_ret
    exact ⟨rfl, rfl⟩
  · have H4 := hide (Credit_far r n w (by omega) hr2 (by omega) (by omega))
    clear hf u4 u3
    generalize r * (n - 1) = l at *
    go_enter Try.func7, Try.ntmps7
    go_wp2_with fail
    refine (takes_any _).mono ?_
    rintro e w' ⟨rfl, rfl⟩
    go_wp2_with fail
    refine H.out.mono ?_
    rintro e w' ⟨rfl, rfl⟩
    go_wp2_with fail
    refine H2.out.mono ?_
    rintro e w' ⟨rfl, rfl⟩
    go_wp2_with fail
    refine H3.out.mono ?_
    rintro e w' ⟨rfl, rfl⟩
    go_wp2_with fail
    refine H4.out.mono ?_
    rintro e w' ⟨rfl, rfl⟩
    go_wp2
    go_ret
    exact ⟨rfl, rfl⟩
theorem Cr_zero_B1 (r d m : Int) (w : World) (hr2 : r ≤ 9223372036854775807) (hm2 : m ≤ 9223372036854775807) (hr : 0 ≤ r) (hz : r ≤ 0) (hd : 0 ≤ d) (hm : m ≤ 0) :
    Calls Try.prog 7 #[.int .i64 r, .int .i64 d, .int .i64 m] w fun r w' => r = .returned (.bool true) ∧ w' = w := by
  obtain rfl : r = 0 := by omega
  have H := hide (Credit_zero d w hd)
  have H2 := hide (Until_none m 0 w hm)
  go_enter Try.func7, Try.ntmps7
  go_wp2_with fail
  refine (takes_any _).mono ?_
  rintro e w' ⟨rfl, rfl⟩
  go_wp2_with fail
  refine H.out.mono ?_
  rintro e w' ⟨rfl, rfl⟩
  go_wp2_with fail
  refine H2.out.mono ?_
  rintro e w' ⟨rfl, rfl⟩
  go_wp2
  go_ret
  exact ⟨rfl, rfl⟩
theorem Cr_zero_B2 (r d m : Int) (w : World) (hr2 : r ≤ 9223372036854775807) (hm2 : m ≤ 9223372036854775807) (hr : 0 ≤ r) (hz : r ≤ 0) (hd : 0 ≤ d) (hm : 0 < m) :
    Calls Try.prog 7 #[.int .i64 r, .int .i64 d, .int .i64 m] w fun r w' => r = .returned (.bool true) ∧ w' = w := by
  obtain rfl : r = 0 := by omega
  have H := hide (Credit_zero d w hd)
  have H2 := hide (Until_never m 0 w hm (by omega))
  go_enter Try.func7, Try.ntmps7
  go_wp2_with fail
  refine (takes_any _).mono ?_
  rintro e w' ⟨rfl, rfl⟩
  go_wp2_with fail
  refine H.out.mono ?_
  rintro e w' ⟨rfl, rfl⟩
  go_wp2_with fail
  refine H2.out.mono ?_
  rintro e w' ⟨rfl, rfl⟩
  go_wp2
  go_ret
  exact ⟨rfl, rfl⟩
theorem Cr_far_B1 (r d m : Int) (w : World) (hr2 : r ≤ 9223372036854775807) (hm2 : m ≤ 9223372036854775807) (hr : 0 < r) (hd : 0 ≤ d) (h : 9223372036854775807 / r < d) (hm : m ≤ 0) :
    Calls Try.prog 7 #[.int .i64 r, .int .i64 d, .int .i64 m] w fun r w' => r = .returned (.bool true) ∧ w' = w := by
  have H := hide (Credit_far r d w hr hr2 hd h)
  have q1 : 0 ≤ 9223372036854775807 / r := Int.ediv_nonneg (by omega) (by omega)
  have q2 : 9223372036854775807 / r ≤ 9223372036854775807 := Int.ediv_le_self _ (by omega)
  have H2 := hide (Until_none m r w hm)
  go_enter Try.func7, Try.ntmps7
  go_wp2_with fail
  refine (takes_any _).mono ?_
  rintro e w' ⟨rfl, rfl⟩
  go_wp2_with fail
  refine H.out.mono ?_
  rintro e w' ⟨rfl, rfl⟩
  go_wp2_with fail
  refine H2.out.mono ?_
  rintro e w' ⟨rfl, rfl⟩
  go_wp2
  go_ret
  exact ⟨rfl, rfl⟩
theorem Cr_far_B3 (r d m : Int) (w : World) (hr2 : r ≤ 9223372036854775807) (hm2 : m ≤ 9223372036854775807) (hr : 0 < r) (hd : 0 ≤ d) (h : 9223372036854775807 / r < d) (hm : 0 < m) :
    Calls Try.prog 7 #[.int .i64 r, .int .i64 d, .int .i64 m] w fun r w' => r = .returned (.bool true) ∧ w' = w := by
  have H := hide (Credit_far r d w hr hr2 hd h)
  have q1 : 0 ≤ 9223372036854775807 / r := Int.ediv_nonneg (by omega) (by omega)
  have q2 : 9223372036854775807 / r ≤ 9223372036854775807 := Int.ediv_le_self _ (by omega)
  have H2 := hide (Until_ok m r w hm hm2 (by omega) hr2)
  obtain ⟨u1, u2, u3, u4, u5⟩ := upD_least m r hm hm2 (by omega)
  generalize upD m r = n at *
  have H3 := hide (Credit_ok r (n - 1) w (by omega) hr2 u1 u4)
  have hn : 1 ≤ n := by omega
  by_cases hf : n ≤ 9223372036854775807 / r
  · have H4 := hide (Credit_ok r n w (by omega) hr2 (by omega) hf)
    clear hf u4
    generalize r * (n - 1) = l at *
    generalize r * n = f at *
    go_enter Try.func7, Try.ntmps7
    go_wp2_with fail
    refine (takes_any _).mono ?_
    rintro e w' ⟨rfl, rfl⟩
    go_wp2_with fail
    refine H.out.mono ?_
    rintro e w' ⟨rfl, rfl⟩
    go_wp2_with fail
    refine H2.out.mono ?_
    rintro e w' ⟨rfl, rfl⟩
    go_wp2_with fail
    refine H3.out.mono ?_
    rintro e w' ⟨rfl, rfl⟩
    go_wp2_with fail
    refine H4.out.mono ?_
    rintro e w' ⟨rfl, rfl⟩
    go_wp2
    go_ret
    exact ⟨rfl, rfl⟩
  · have H4 := hide (Credit_far r n w (by omega) hr2 (by omega) (by omega))
    clear hf u4 u3
    generalize r * (n - 1) = l at *
    go_enter Try.func7, Try.ntmps7
    go_wp2_with fail
    refine (takes_any _).mono ?_
    rintro e w' ⟨rfl, rfl⟩
    go_wp2_with fail
    refine H.out.mono ?_
    rintro e w' ⟨rfl, rfl⟩
    go_wp2_with fail
    refine H2.out.mono ?_
    rintro e w' ⟨rfl, rfl⟩
    go_wp2_with fail
    refine H3.out.mono ?_
    rintro e w' ⟨rfl, rfl⟩
    go_wp2_with fail
    refine H4.out.mono ?_
    rintro e w' ⟨rfl, rfl⟩
    go_wp2
    go_ret
    exact ⟨rfl, rfl⟩
theorem Cr_ok_B1 (r d m : Int) (w : World) (hr2 : r ≤ 9223372036854775807) (hm2 : m ≤ 9223372036854775807) (hr : 0 < r) (hd : 0 ≤ d) (h : d ≤ 9223372036854775807 / r) (hm : m ≤ 0) :
    Calls Try.prog 7 #[.int .i64 r, .int .i64 d, .int .i64 m] w fun r w' => r = .returned (.bool true) ∧ w' = w := by
  have H := hide (Credit_ok r d w hr hr2 hd h)
  have q1 : 0 ≤ 9223372036854775807 / r := Int.ediv_nonneg (by omega) (by omega)
  have q2 : 9223372036854775807 / r ≤ 9223372036854775807 := Int.ediv_le_self _ (by omega)
  have q3 : 0 ≤ r * d := Int.mul_nonneg (by omega) hd
  have q4 : r * d ≤ 9223372036854775807 := by rw [Int.mul_comm]; exact (Int.le_ediv_iff_mul_le hr).1 h
  have H2 := hide (Until_none m r w hm)
  go_enter Try.func7, Try.ntmps7
  go_wp2_with fail
  refine (takes_any _).mono ?_
  rintro e w' ⟨rfl, rfl⟩
  go_wp2_with fail
  refine H.out.mono ?_
  rintro e w' ⟨rfl, rfl⟩
  go_wp2_with fail
  refine H2.out.mono ?_
  rintro e w' ⟨rfl, rfl⟩
  go_wp2
  go_ret
  exact ⟨rfl, rfl⟩
theorem Cr_ok_B3 (r d m : Int) (w : World) (hr2 : r ≤ 9223372036854775807) (hm2 : m ≤ 9223372036854775807) (hr : 0 < r) (hd : 0 ≤ d) (h : d ≤ 9223372036854775807 / r) (hm : 0 < m) :
    Calls Try.prog 7 #[.int .i64 r, .int .i64 d, .int .i64 m] w fun r w' => r = .returned (.bool true) ∧ w' = w := by
  have H := hide (Credit_ok r d w hr hr2 hd h)
  have q1 : 0 ≤ 9223372036854775807 / r := Int.ediv_nonneg (by omega) (by omega)
  have q2 : 9223372036854775807 / r ≤ 9223372036854775807 := Int.ediv_le_self _ (by omega)
  have q3 : 0 ≤ r * d := Int.mul_nonneg (by omega) hd
  have q4 : r * d ≤ 9223372036854775807 := by rw [Int.mul_comm]; exact (Int.le_ediv_iff_mul_le hr).1 h
  have H2 := hide (Until_ok m r w hm hm2 (by omega) hr2)
  obtain ⟨u1, u2, u3, u4, u5⟩ := upD_least m r hm hm2 (by omega)
  generalize upD m r = n at *
  have H3 := hide (Credit_ok r (n - 1) w (by omega) hr2 u1 u4)
  have hn : 1 ≤ n := by omega
  by_cases hf : n ≤ 9223372036854775807 / r
  · have H4 := hide (Credit_ok r n w (by omega) hr2 (by omega) hf)
    clear hf u4
    generalize r * (n - 1) = l at *
    generalize r * n = f at *
    go_enter Try.func7, Try.ntmps7
    go_wp2_with fail
    refine (takes_any _).mono ?_
    rintro e w' ⟨rfl, rfl⟩
    go_wp2_with fail
    refine H.out.mono ?_
    rintro e w' ⟨rfl, rfl⟩
    go_wp2_with fail
    refine H2.out.mono ?_
    rintro e w' ⟨rfl, rfl⟩
    go_wp2_with fail
    refine H3.out.mono ?_
    rintro e w' ⟨rfl, rfl⟩
    go_wp2_with fail
    refine H4.out.mono ?_
    rintro e w' ⟨rfl, rfl⟩
    go_wp2
    go_ret
    exact ⟨rfl, rfl⟩
  · have H4 := hide (Credit_far r n w (by omega) hr2 (by omega) (by omega))
    clear hf u4 u3
    generalize r * (n - 1) = l at *
    go_enter Try.func7, Try.ntmps7
    go_wp2_with fail
    refine (takes_any _).mono ?_
    rintro e w' ⟨rfl, rfl⟩
    go_wp2_with fail
    refine H.out.mono ?_
    rintro e w' ⟨rfl, rfl⟩
    go_wp2_with fail
    refine H2.out.mono ?_
    rintro e w' ⟨rfl, rfl⟩
    go_wp2_with fail
    refine H3.out.mono ?_
    rintro e w' ⟨rfl, rfl⟩
    go_wp2_with fail
    refine H4.out.mono ?_
    rintro e w' ⟨rfl, rfl⟩
    go_wp2
    go_ret
    exact ⟨rfl, rfl⟩
theorem Credits_walk (r d m : Int) (w : World) (hr2 : r ≤ 9223372036854775807) (hm2 : m ≤ 9223372036854775807) :
    Calls Try.prog 7 #[.int .i64 r, .int .i64 d, .int .i64 m] w fun r w' => r = .returned (.bool true) ∧ w' = w := by
  by_cases hr : r < 0
  · by_cases hm : m ≤ 0
    · exact Cr_neg_B1 r d m w hr2 hm2 hr hm
    · exact Cr_neg_B2 r d m w hr2 hm2 hr (by omega)
  by_cases hd : d < 0
  · by_cases hm : m ≤ 0
    · exact Cr_back_B1 r d m w hr2 hm2 (by omega) hd hm
    by_cases hz : r ≤ 0
    · exact Cr_back_B2 r d m w hr2 hm2 (by omega) hd (by omega) hz
    · exact Cr_back_B3 r d m w hr2 hm2 (by omega) hd (by omega) (by omega)
  by_cases hz : r ≤ 0
  · by_cases hm : m ≤ 0
    · exact Cr_zero_B1 r d m w hr2 hm2 (by omega) hz (by omega) hm
    · exact Cr_zero_B2 r d m w hr2 hm2 (by omega) hz (by omega) (by omega)
  by_cases h : 9223372036854775807 / r < d
  · by_cases hm : m ≤ 0
    · exact Cr_far_B1 r d m w hr2 hm2 (by omega) (by omega) h hm
    · exact Cr_far_B3 r d m w hr2 hm2 (by omega) (by omega) h (by omega)
  · by_cases hm : m ≤ 0
    · exact Cr_ok_B1 r d m w hr2 hm2 (by omega) (by omega) (by omega) hm
    · exact Cr_ok_B3 r d m w hr2 hm2 (by omega) (by omega) (by omega) (by omega)
end Go.Proofs.Ytbdolfnnohdmhaa
