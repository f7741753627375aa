/-
  The walks of the statements WireTimes, WireClocks, WireSpeeds: whatever the numbers, each answers true and writes nothing.
-/
import Derived.Test.YtbdolfnnohdmhaaWireT
namespace Go.Proofs.Ytbdolfnnohdmhaa
open Go.RowKit

theorem Clocks_walk (t d : Int) (w : World) (ht1 : -9223372036854775808 ≤ t) (ht2 : t ≤ 9223372036854775807) (hd1 : -9223372036854775808 ≤ d) (hd2 : d ≤ 9223372036854775807) :
    Calls Try.prog 6 #[.int .i64 t, .int .i64 d] w fun r w' => r = .returned (.bool true) ∧ w' = w := by
  by_cases h : t < 0 ∨ d < 0 ∨ 4611686018427387904 ≤ t + d
  · have H := hide (After_bad t d w ht2 hd2 h)
    rcases (show t < 0 ∨ (0 ≤ t ∧ d < 0) ∨ (0 ≤ t ∧ 0 ≤ d ∧ 4611686018427387904 ≤ t) ∨ (0 ≤ t ∧ 0 ≤ d ∧ t < 4611686018427387904 ∧ 4611686018427387904 ≤ d) ∨ (0 ≤ t ∧ 0 ≤ d ∧ t < 4611686018427387904 ∧ d < 4611686018427387904 ∧ 4611686018427387904 ≤ t + d) by omega) with h1 | ⟨h1, h2⟩ | ⟨h1, h2, h3⟩ | ⟨h1, h2, h3, h4⟩ | ⟨h1, h2, h3, h4, h5⟩
    all_goals
      clear h
      go_enter Try.func6, Try.ntmps6
      go_wp2_with fail
      refine (takes_any _).mono ?_
      rintro e w' ⟨rfl, rfl⟩
      go_wp2_with fail
      refine H.out.mono ?_
      rintro e w' ⟨rfl, rfl⟩
      go_wp2
      go_ret
      exact ⟨rfl, rfl⟩
  · have H := hide (After_ok t d w (by omega) (by omega) (by omega))
    have h1 : 0 ≤ t := by omega
    have h2 : 0 ≤ d := by omega
    have h3 : t + d < 4611686018427387904 := by omega
    have h4 : t < 4611686018427387904 := by omega
    have h5 : d < 4611686018427387904 := by omega
    clear h
    go_enter Try.func6, Try.ntmps6
    go_wp2_with fail
    refine (takes_any _).mono ?_
    rintro e w' ⟨rfl, rfl⟩
    go_wp2_with fail
    refine H.out.mono ?_
    rintro e w' ⟨rfl, rfl⟩
    go_wp2
    go_ret
    exact ⟨rfl, rfl⟩

theorem Speeds_walk (b : Int) (w : World) :
    Calls Try.prog 8 #[.int .i64 b] w fun r w' => r = .returned (.bool true) ∧ w' = w := by
  rcases (show b < 0 ∨ (0 ≤ b ∧ 1522 < b) ∨ (0 ≤ b ∧ b ≤ 1522) by omega) with h1 | ⟨h1, h2⟩ | ⟨h1, h2⟩
  · go_enter Try.func8, Try.ntmps8
    go_wp2_with fail
    refine (takes_any _).mono ?_
    rintro e w' ⟨rfl, rfl⟩
    go_wp2
    go_ret
    exact ⟨rfl, rfl⟩
  · go_enter Try.func8, Try.ntmps8
    go_wp2_with fail
    refine (takes_any _).mono ?_
    rintro e w' ⟨rfl, rfl⟩
    go_wp2
    go_ret
    exact ⟨rfl, rfl⟩
  · have H1 := hide (Time_ok b 10 w rfl h1 h2)
    have H2 := hide (Time_ok b 100 w rfl h1 h2)
    have H3 := hide (Time_ok b 1000 w rfl h1 h2)
    have H4 := hide (Time_ok b 10000 w rfl h1 h2)
    have e1 : upD ((b + 20) * 8000) 10 = 10 * upD ((b + 20) * 8000) 100 := by unfold upD; omega
    have e2 : upD ((b + 20) * 8000) 100 = 10 * upD ((b + 20) * 8000) 1000 := by unfold upD; omega
    have e3 : (upD ((b + 20) * 8000) 1000 + 9) / 10 = upD ((b + 20) * 8000) 10000 := by unfold upD; omega
    have e4 : 0 ≤ upD ((b + 20) * 8000) 1000 ∧ upD ((b + 20) * 8000) 1000 ≤ 13000 := by unfold upD; omega
    generalize upD ((b + 20) * 8000) 10 = t1 at *
    generalize upD ((b + 20) * 8000) 100 = t2 at *
    generalize upD ((b + 20) * 8000) 1000 = t3 at *
    generalize upD ((b + 20) * 8000) 10000 = t4 at *
    subst e1 e2 e3
    obtain ⟨e4, e5⟩ := e4
    go_enter Try.func8, Try.ntmps8
    go_wp2_with fail
    refine (takes_any _).mono ?_
    rintro e w' ⟨rfl, rfl⟩
    go_wp2_with fail
    refine H1.out.mono ?_
    rintro e w' ⟨rfl, rfl⟩
    go_wp2_with fail
    refine H2.out.mono ?_
    rintro e w' ⟨rfl, rfl⟩
    go_wp2_with fail
    refine H3.out.mono ?_
    rintro e w' ⟨rfl, rfl⟩
    go_wp2_with fail
    refine H4.out.mono ?_
    rintro e w' ⟨rfl, rfl⟩
    go_wp2
    go_ret
    exact ⟨rfl, rfl⟩

theorem Times_walk (b s : Int) (w : World) :
    Calls Try.prog 3 #[.int .i64 b, .int .i64 s] w fun r w' => r = .returned (.bool true) ∧ w' = w := by
  cases hs : spB s
  · have H := hide (Time_bad b s w (.inl hs))
    have h := hs
    simp only [spB, decide_eq_false_iff_not, not_or] at h
    obtain ⟨h1, h2, h3, h4⟩ := h
    go_enter Try.func3, Try.ntmps3
    go_wp2_with fail
    refine (takes_any _).mono ?_
    rintro e w' ⟨rfl, rfl⟩
    go_wp2_with fail
    refine H.out.mono ?_
    rintro e w' ⟨rfl, rfl⟩
    go_wp2_with (go_at_call 15; refine (Speed_any _ _).mono ?_; rintro e w' ⟨rfl, rfl⟩; rw [hs])
    go_ret
    exact ⟨rfl, rfl⟩
  · rcases (show b < 0 ∨ (0 ≤ b ∧ 1522 < b) ∨ (0 ≤ b ∧ b ≤ 1522) by omega) with h1 | ⟨h1, h2⟩ | ⟨h1, h2⟩
    · have H := hide (Time_bad b s w (.inr (.inl h1)))
      rcases spB_cases hs with rfl | rfl | rfl | rfl
      all_goals
        go_enter Try.func3, Try.ntmps3
        go_wp2_with fail
        refine (takes_any _).mono ?_
        rintro e w' ⟨rfl, rfl⟩
        go_wp2_with fail
        refine H.out.mono ?_
        rintro e w' ⟨rfl, rfl⟩
        go_wp2_with (go_at_call 15; refine (Speed_any _ _).mono ?_; rintro e w' ⟨rfl, rfl⟩; rw [hs])
        go_ret
        exact ⟨rfl, rfl⟩
    · have H := hide (Time_bad b s w (.inr (.inr h2)))
      rcases spB_cases hs with rfl | rfl | rfl | rfl
      all_goals
        go_enter Try.func3, Try.ntmps3
        go_wp2_with fail
        refine (takes_any _).mono ?_
        rintro e w' ⟨rfl, rfl⟩
        go_wp2_with fail
        refine H.out.mono ?_
        rintro e w' ⟨rfl, rfl⟩
        go_wp2_with (go_at_call 15; refine (Speed_any _ _).mono ?_; rintro e w' ⟨rfl, rfl⟩; rw [hs])
        go_ret
        exact ⟨rfl, rfl⟩
    · have H := hide (Time_ok b s w hs h1 h2)
      have e : upD ((b + 20) * 8000) s = (if s = 10000 ∧ (b + 20) * 8 % 10 ≠ 0 then (b + 20) * 8 / 10 + 1 else if s = 10 then (b + 20) * 8000 / 10 else if s = 100 then (b + 20) * 800 / 10 else if s = 1000 then (b + 20) * 80 / 10 else (b + 20) * 8 / 10) := by
        unfold upD
        rcases spB_cases hs with rfl | rfl | rfl | rfl <;> simp <;> omega
      rw [e] at H
      clear e
      rcases spB_cases hs with rfl | rfl | rfl | rfl
      · simp only [show ¬ ((10 : Int) = 10000) by decide, false_and, if_false, if_true] at H
        go_enter Try.func3, Try.ntmps3
        go_wp2_with fail
        refine (takes_any _).mono ?_
        rintro e w' ⟨rfl, rfl⟩
        go_wp2_with fail
        refine H.out.mono ?_
        rintro e w' ⟨rfl, rfl⟩
        go_wp2_with (go_at_call 15; refine (Speed_any _ _).mono ?_; rintro e w' ⟨rfl, rfl⟩; rw [hs])
        go_ret
        exact ⟨rfl, rfl⟩
      · simp only [show ¬ ((100 : Int) = 10000) by decide, show ¬ ((100 : Int) = 10) by decide, false_and, if_false, if_true] at H
        go_enter Try.func3, Try.ntmps3
        go_wp2_with fail
        refine (takes_any _).mono ?_
        rintro e w' ⟨rfl, rfl⟩
        go_wp2_with fail
        refine H.out.mono ?_
        rintro e w' ⟨rfl, rfl⟩
        go_wp2_with (go_at_call 15; refine (Speed_any _ _).mono ?_; rintro e w' ⟨rfl, rfl⟩; rw [hs])
        go_ret
        exact ⟨rfl, rfl⟩
      · simp only [show ¬ ((1000 : Int) = 10000) by decide, show ¬ ((1000 : Int) = 10) by decide, show ¬ ((1000 : Int) = 100) by decide, false_and, if_false, if_true] at H
        go_enter Try.func3, Try.ntmps3
        go_wp2_with fail
        refine (takes_any _).mono ?_
        rintro e w' ⟨rfl, rfl⟩
        go_wp2_with fail
        refine H.out.mono ?_
        rintro e w' ⟨rfl, rfl⟩
        go_wp2_with (go_at_call 15; refine (Speed_any _ _).mono ?_; rintro e w' ⟨rfl, rfl⟩; rw [hs])
        go_ret
        exact ⟨rfl, rfl⟩
      · by_cases hr : (b + 20) * 8 % 10 = 0
        all_goals
          simp only [hr, ne_eq, not_true_eq_false, not_false_eq_true, and_true, and_false, show ¬ ((10000 : Int) = 1000) by decide, show ¬ ((10000 : Int) = 10) by decide, show ¬ ((10000 : Int) = 100) by decide, if_false, if_true] at H
          go_enter Try.func3, Try.ntmps3
          go_wp2_with fail
          refine (takes_any _).mono ?_
          rintro e w' ⟨rfl, rfl⟩
          go_wp2_with fail
          refine H.out.mono ?_
          rintro e w' ⟨rfl, rfl⟩
          go_wp2_with (go_at_call 15; refine (Speed_any _ _).mono ?_; rintro e w' ⟨rfl, rfl⟩; rw [hs])
          go_ret
          exact ⟨rfl, rfl⟩
end Go.Proofs.Ytbdolfnnohdmhaa
