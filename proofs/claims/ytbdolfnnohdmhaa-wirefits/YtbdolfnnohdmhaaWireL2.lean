/-
  The walks of the statements WireFits and WireCredits: whatever the numbers, each answers true and writes nothing.
-/
import Derived.Test.YtbdolfnnohdmhaaWireT
namespace Go.Proofs.Ytbdolfnnohdmhaa
open Go.RowKit

theorem fitN_bounds (t s : Int) (h : spB s = true) : -1 ≤ fitN t s ∧ fitN t s ≤ 1522 ∧ (0 ≤ fitN t s → upD ((fitN t s + 20) * 8000) s ≤ t) ∧ (fitN t s < 1522 → t < upD ((fitN t s + 1 + 20) * 8000) s) := by
  unfold fitN
  rcases spB_cases h with rfl | rfl | rfl | rfl <;> (unfold upD; split; · (simp; omega)); all_goals (split <;> simp <;> omega)

theorem Fits_walk (t s : Int) (w : World) :
    Calls Try.prog 5 #[.int .i64 t, .int .i64 s] w fun r w' => r = .returned (.bool true) ∧ w' = w := by
  cases hs : spB s
  · go_enter Try.func5, Try.ntmps5
    go_wp2_with fail
    refine (takes_any _).mono ?_
    rintro e w' ⟨rfl, rfl⟩
    go_wp2_with fail
    refine (Fit_bad _ _ _ hs).mono ?_
    rintro e w' ⟨rfl, rfl⟩
    go_wp2_with (go_at_call 15; refine (Speed_any _ _).mono ?_; rintro e w' ⟨rfl, rfl⟩; rw [hs])
    go_ret
    exact ⟨rfl, rfl⟩
  · have H := hide (Fit_ok t s w hs)
    obtain ⟨b1, b2, b3, b4⟩ := fitN_bounds t s hs
    generalize fitN t s = n at *
    rcases (show n = -1 ∨ (0 ≤ n ∧ n < 1522) ∨ n = 1522 by omega) with rfl | ⟨h1, h2⟩ | rfl
    · have H2 := hide (Time_ok 0 s w hs (by decide) (by decide))
      have b5 := b4 (by decide)
      simp only [show ((-1 : Int) + 1 + 20) = 0 + 20 by decide] at b5
      clear b3 b4
      generalize upD ((0 + 20) * 8000) s = u at *
      go_enter Try.func5, Try.ntmps5
      go_wp2_with fail
      refine (takes_any _).mono ?_
      rintro e w' ⟨rfl, rfl⟩
      go_wp2_with fail
      refine H.out.mono ?_
      rintro e w' ⟨rfl, rfl⟩
      go_wp2_with fail
      refine (Speed_any _ _).mono ?_
      rintro e w' ⟨rfl, rfl⟩
      rw [hs]
      go_wp2_with fail
      refine H2.out.mono ?_
      rintro e w' ⟨rfl, rfl⟩
      go_wp2
      go_ret
      exact ⟨rfl, rfl⟩
    · have H2 := hide (Time_ok n s w hs h1 (by omega))
      have H3 := hide (Time_ok (n + 1) s w hs (by omega) (by omega))
      have b5 := b3 h1
      have b6 := b4 h2
      clear b3 b4
      generalize upD ((n + 20) * 8000) s = u at *
      generalize upD ((n + 1 + 20) * 8000) s = v at *
      go_enter Try.func5, Try.ntmps5
      go_wp2_with fail
      refine (takes_any _).mono ?_
      rintro e w' ⟨rfl, rfl⟩
      go_wp2_with fail
      refine H.out.mono ?_
      rintro e w' ⟨rfl, rfl⟩
      go_wp2_with fail
      refine (Speed_any _ _).mono ?_
      rintro e w' ⟨rfl, rfl⟩
      rw [hs]
      go_wp2_with fail
      refine H2.out.mono ?_
      rintro e w' ⟨rfl, rfl⟩
      go_wp2_with fail
      refine H3.out.mono ?_
      rintro e w' ⟨rfl, rfl⟩
      go_wp2
      go_ret
      exact ⟨rfl, rfl⟩
    · have H2 := hide (Time_ok 1522 s w hs (by decide) (by decide))
      have b5 := b3 (by decide)
      clear b3 b4
      generalize upD ((1522 + 20) * 8000) s = u at *
      go_enter Try.func5, Try.ntmps5
      go_wp2_with fail
      refine (takes_any _).mono ?_
      rintro e w' ⟨rfl, rfl⟩
      go_wp2_with fail
      refine H.out.mono ?_
      rintro e w' ⟨rfl, rfl⟩
      go_wp2_with fail
      refine (Speed_any _ _).mono ?_
      rintro e w' ⟨rfl, rfl⟩
      rw [hs]
      go_wp2_with fail
      refine H2.out.mono ?_
      rintro e w' ⟨rfl, rfl⟩
      go_wp2
      go_ret
      exact ⟨rfl, rfl⟩
end Go.Proofs.Ytbdolfnnohdmhaa
