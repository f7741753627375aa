/-
  Contracts of package wire (Speed, shareUp, Time, Fit, After, Credit, Until), and of the head of layer 5's statements. Conditions: those that each theorem names.
-/
import Derived.Test.YtbdolfnnohdmhaaMem
import Derived.Test.YtbdolfnnohdmhaaChecked
import Derived.Deep.Light
namespace Go.Proofs.Ytbdolfnnohdmhaa
open Go.RowKit

theorem wret_bool {a b : Bool} (h : a = b) : Ending.returned (.bool a) = .returned (.bool b) := by rw [h]
theorem wret_i64 {a b : Int} (h : a = b) : Ending.returned (.int .i64 a) = .returned (.int .i64 b) := by rw [h]
theorem wret_two {a b c d : Int} (h : a = b) (h2 : c = d) : Ending.returned (.tuple #[.int .i64 a, .int .i64 c]) = .returned (.tuple #[.int .i64 b, .int .i64 d]) := by rw [h, h2]

/-- A wire's speed. -/
def spB (n : Int) : Bool := decide (n = 10 ∨ n = 100 ∨ n = 1000 ∨ n = 10000)
theorem Speed_any (n : Int) (w : World) : Calls Try.prog 15 #[.int .i64 n] w fun r w' => r = .returned (.bool (spB n)) ∧ w' = w := by
  go_enter Try.func15, Try.ntmps15
  go_wp2
  all_goals
    go_ret
    refine ⟨wret_bool ?_, rfl⟩
    go_light
    rw [Bool.eq_iff_iff]
    simp [spB]
    try omega
/-- Rounded up. -/
def upD (n b : Int) : Int := (n - 1) / b + 1
theorem upD_bounds (n b : Int) (hn : 0 < n) (hb : 0 < b) : 0 ≤ (n - 1) / b ∧ (n - 1) / b ≤ n - 1 :=
  ⟨Int.ediv_nonneg (by omega) (by omega), Int.ediv_le_self _ (by omega)⟩
theorem shareUp_any (n b : Int) (w : World) (hn : 0 < n) (hn2 : n ≤ 9223372036854775807) (hb : 0 < b) (hb2 : b ≤ 9223372036854775807) :
    Calls Try.prog 31 #[.int .i64 n, .int .i64 b] w fun r w' => r = .returned (.int .i64 (upD n b)) ∧ w' = w := by
  obtain ⟨h1, h2⟩ := upD_bounds n b hn hb
  go_enter Try.func31, Try.ntmps31
  go_wp2
  go_ret
  exact ⟨rfl, rfl⟩
/-- A frame's time on a wire, and the error beside it. -/
def timeE (b s : Int) : Int := if spB s = false ∨ b < 0 ∨ 1522 < b then 1 else 0
def timeT (b s : Int) : Int := if spB s = false ∨ b < 0 ∨ 1522 < b then 0 else upD ((b + 20) * 8000) s
theorem Time_bad (b s : Int) (w : World) (h : spB s = false ∨ b < 0 ∨ 1522 < b) :
    Calls Try.prog 14 #[.int .i64 b, .int .i64 s] w fun r w' => r = .returned (.tuple #[.int .i64 0, .int .i64 1]) ∧ w' = w := by
  cases hs : spB s
  · clear h
    go_enter Try.func14, Try.ntmps14
    go_wp2_with (go_at_call 15; refine (Speed_any _ _).mono ?_; rintro e w' ⟨rfl, rfl⟩; rw [hs])
    go_ret2
    exact ⟨rfl, rfl⟩
  · rcases (show b < 0 ∨ (0 ≤ b ∧ 1522 < b) by simp [hs] at h; omega) with h1 | ⟨h1, h2⟩
    all_goals
      clear h
      go_enter Try.func14, Try.ntmps14
      go_wp2_with (go_at_call 15; refine (Speed_any _ _).mono ?_; rintro e w' ⟨rfl, rfl⟩; rw [hs])
      go_ret2
      exact ⟨rfl, rfl⟩
theorem spB_cases {s : Int} (hs : spB s = true) : s = 10 ∨ s = 100 ∨ s = 1000 ∨ s = 10000 := by simpa [spB] using hs
theorem Time_ok (b s : Int) (w : World) (hs : spB s = true) (h1 : 0 ≤ b) (h2 : b ≤ 1522) :
    Calls Try.prog 14 #[.int .i64 b, .int .i64 s] w fun r w' => r = .returned (.tuple #[.int .i64 (upD ((b + 20) * 8000) s), .int .i64 0]) ∧ w' = w := by
  have hs2 := spB_cases hs
  have e : (8 + b + 12) * 8 * 1000 = (b + 20) * 8000 := by omega
  go_enter Try.func14, Try.ntmps14
  go_wp2_with (first
    | (go_at_call 15; refine (Speed_any _ _).mono ?_; rintro e w' ⟨rfl, rfl⟩; rw [hs])
    | (go_at_call 31; refine (shareUp_any _ _ _ (by omega) (by omega) (by omega) (by omega)).mono ?_; rintro e w' ⟨rfl, rfl⟩))
  go_ret2
  exact ⟨rfl, rfl⟩
theorem Time_any (b s : Int) (w : World) :
    Calls Try.prog 14 #[.int .i64 b, .int .i64 s] w fun r w' => r = .returned (.tuple #[.int .i64 (timeT b s), .int .i64 (timeE b s)]) ∧ w' = w := by
  by_cases h : spB s = false ∨ b < 0 ∨ 1522 < b
  · simp only [timeT, timeE, if_pos h]; exact Time_bad b s w h
  · simp only [timeT, timeE, if_neg h]
    exact Time_ok b s w (by cases hs : spB s <;> simp_all) (by omega) (by omega)
/-- The greatest size that fits. -/
theorem Fit_bad (t s : Int) (w : World) (h : spB s = false) :
    Calls Try.prog 17 #[.int .i64 t, .int .i64 s] w fun r w' => r = .returned (.int .i64 (-1)) ∧ w' = w := by
  go_enter Try.func17, Try.ntmps17
  go_wp2_with (go_at_call 14; refine (Time_bad _ _ _ (.inl h)).mono ?_; rintro e w' ⟨rfl, rfl⟩)
  go_ret
  exact ⟨rfl, rfl⟩
def fitN (t s : Int) : Int := if t < upD 160000 s then -1 else if upD 12336000 s ≤ t then 1522 else t * s / 8000 - 20
theorem Fit_low (t s : Int) (w : World) (hs : spB s = true) (h : t < upD 160000 s) :
    Calls Try.prog 17 #[.int .i64 t, .int .i64 s] w fun r w' => r = .returned (.int .i64 (-1)) ∧ w' = w := by
  have h0 := hide (Time_ok 0 s w hs (by omega) (by omega))
  simp only [show ((0 : Int) + 20) * 8000 = 160000 by rfl] at h0
  generalize upD 160000 s = A at *
  go_enter Try.func17, Try.ntmps17
  go_wp2_with (go_at_call 14; refine h0.out.mono ?_; rintro e w' ⟨rfl, rfl⟩)
  go_ret
  exact ⟨rfl, rfl⟩
theorem Fit_high (t s : Int) (w : World) (hs : spB s = true) (h : upD 160000 s ≤ t) (h2 : upD 12336000 s ≤ t) :
    Calls Try.prog 17 #[.int .i64 t, .int .i64 s] w fun r w' => r = .returned (.int .i64 1522) ∧ w' = w := by
  have h0 := hide (Time_ok 0 s w hs (by omega) (by omega))
  have h1 := hide (Time_ok 1522 s w hs (by omega) (by omega))
  simp only [show ((0 : Int) + 20) * 8000 = 160000 by rfl, show ((1522 : Int) + 20) * 8000 = 12336000 by rfl] at h0 h1
  generalize upD 160000 s = A at *
  generalize upD 12336000 s = B at *
  go_enter Try.func17, Try.ntmps17
  go_wp2_with fail
  refine h0.out.mono ?_
  rintro e w' ⟨rfl, rfl⟩
  go_wp2_with fail
  refine h1.out.mono ?_
  rintro e w' ⟨rfl, rfl⟩
  go_wp2
  go_ret
  exact ⟨rfl, rfl⟩
theorem Fit_mid (t s : Int) (w : World) (hs : spB s = true) (h : upD 160000 s ≤ t) (h2 : t < upD 12336000 s) (h3 : 0 ≤ t * s) (h4 : t * s ≤ 12336000) :
    Calls Try.prog 17 #[.int .i64 t, .int .i64 s] w fun r w' => r = .returned (.int .i64 (t * s / 1000 / 8 - 8 - 12)) ∧ w' = w := by
  have h0 := hide (Time_ok 0 s w hs (by omega) (by omega))
  have h1 := hide (Time_ok 1522 s w hs (by omega) (by omega))
  simp only [show ((0 : Int) + 20) * 8000 = 160000 by rfl, show ((1522 : Int) + 20) * 8000 = 12336000 by rfl] at h0 h1
  generalize upD 160000 s = A at *
  generalize upD 12336000 s = B at *
  go_enter Try.func17, Try.ntmps17
  go_wp2_with fail
  refine h0.out.mono ?_
  rintro e w' ⟨rfl, rfl⟩
  go_wp2_with fail
  refine h1.out.mono ?_
  rintro e w' ⟨rfl, rfl⟩
  go_wp2
  go_ret
  exact ⟨rfl, rfl⟩
theorem Fit_ok (t s : Int) (w : World) (h : spB s = true) :
    Calls Try.prog 17 #[.int .i64 t, .int .i64 s] w fun r w' => r = .returned (.int .i64 (fitN t s)) ∧ w' = w := by
  unfold fitN
  split
  · exact Fit_low t s w h (by omega)
  · split
    · exact Fit_high t s w h (by omega) (by omega)
    · have h5 : 0 ≤ t * s ∧ t * s ≤ 12336000 := by
        rcases spB_cases h with rfl | rfl | rfl | rfl <;> (unfold upD at *; omega)
      rw [show t * s / 8000 - 20 = t * s / 1000 / 8 - 8 - 12 by rw [Int.ediv_ediv_of_nonneg (by omega)]; omega]
      exact Fit_mid t s w h (by omega) (by omega) h5.1 h5.2
/-- So much later. -/
theorem After_bad (t d : Int) (w : World) (ht : t ≤ 9223372036854775807) (hd : d ≤ 9223372036854775807) (h : t < 0 ∨ d < 0 ∨ 4611686018427387904 ≤ t + d) :
    Calls Try.prog 18 #[.int .i64 t, .int .i64 d] w fun r w' => r = .returned (.tuple #[.int .i64 0, .int .i64 31]) ∧ w' = w := by
  rcases (show t < 0 ∨ (0 ≤ t ∧ d < 0) ∨ (0 ≤ t ∧ 0 ≤ d ∧ 4611686018427387904 - d ≤ t) by omega) with h1 | ⟨h1, h2⟩ | ⟨h1, h2, h3⟩
  all_goals
    clear h
    go_enter Try.func18, Try.ntmps18
    go_wp2
    go_ret2
    exact ⟨rfl, rfl⟩
theorem After_ok (t d : Int) (w : World) (h1 : 0 ≤ t) (h2 : 0 ≤ d) (h3 : t + d < 4611686018427387904) :
    Calls Try.prog 18 #[.int .i64 t, .int .i64 d] w fun r w' => r = .returned (.tuple #[.int .i64 (t + d), .int .i64 0]) ∧ w' = w := by
  go_enter Try.func18, Try.ntmps18
  go_wp2
  go_ret2
  exact ⟨rfl, rfl⟩
theorem Credit_neg (r d : Int) (w : World) (h : r < 0 ∨ d < 0) :
    Calls Try.prog 19 #[.int .i64 r, .int .i64 d] w fun e w' => e = .returned (.tuple #[.int .i64 0, .int .i64 1]) ∧ w' = w := by
  rcases (show r < 0 ∨ (0 ≤ r ∧ d < 0) by omega) with h1 | ⟨h1, h2⟩
  all_goals
    clear h
    go_enter Try.func19, Try.ntmps19
    go_wp2
    go_ret2
    exact ⟨rfl, rfl⟩
theorem Credit_zero (d : Int) (w : World) (hd : 0 ≤ d) :
    Calls Try.prog 19 #[.int .i64 0, .int .i64 d] w fun e w' => e = .returned (.tuple #[.int .i64 0, .int .i64 0]) ∧ w' = w := by
  go_enter Try.func19, Try.ntmps19
  go_wp2
  go_ret2
  exact ⟨by simp, rfl⟩
theorem Credit_far (r d : Int) (w : World) (hr : 0 < r) (hr2 : r ≤ 9223372036854775807) (hd : 0 ≤ d) (h : 9223372036854775807 / r < d) :
    Calls Try.prog 19 #[.int .i64 r, .int .i64 d] w fun e w' => e = .returned (.tuple #[.int .i64 0, .int .i64 1]) ∧ w' = w := by
  have h1 : 0 ≤ 9223372036854775807 / r := Int.ediv_nonneg (by omega) (by omega)
  have h2 : 9223372036854775807 / r ≤ 9223372036854775807 := Int.ediv_le_self _ (by omega)
  go_enter Try.func19, Try.ntmps19
  go_wp2
  go_ret2
  exact ⟨rfl, rfl⟩
theorem Credit_ok (r d : Int) (w : World) (hr : 0 < r) (hr2 : r ≤ 9223372036854775807) (hd : 0 ≤ d) (h : d ≤ 9223372036854775807 / r) :
    Calls Try.prog 19 #[.int .i64 r, .int .i64 d] w fun e w' => e = .returned (.tuple #[.int .i64 (r * d), .int .i64 0]) ∧ w' = w := by
  have h1 : 0 ≤ 9223372036854775807 / r := Int.ediv_nonneg (by omega) (by omega)
  have h2 : 9223372036854775807 / r ≤ 9223372036854775807 := Int.ediv_le_self _ (by omega)
  have h3 : 0 ≤ r * d := Int.mul_nonneg (by omega) hd
  have h4 : r * d ≤ 9223372036854775807 := by rw [Int.mul_comm]; exact (Int.le_ediv_iff_mul_le hr).1 h
  have h5 : ¬ 9223372036854775807 / r < d := by omega
  go_enter Try.func19, Try.ntmps19
  go_wp2
  go_ret2
  exact ⟨rfl, rfl⟩
theorem Until_none (m r : Int) (w : World) (h : m ≤ 0) :
    Calls Try.prog 20 #[.int .i64 m, .int .i64 r] w fun e w' => e = .returned (.tuple #[.int .i64 0, .int .i64 0]) ∧ w' = w := by
  go_enter Try.func20, Try.ntmps20
  go_wp2
  go_ret2
  exact ⟨rfl, rfl⟩
theorem Until_never (m r : Int) (w : World) (h : 0 < m) (hr : r ≤ 0) :
    Calls Try.prog 20 #[.int .i64 m, .int .i64 r] w fun e w' => e = .returned (.tuple #[.int .i64 0, .int .i64 1]) ∧ w' = w := by
  go_enter Try.func20, Try.ntmps20
  go_wp2
  go_ret2
  exact ⟨rfl, rfl⟩
theorem Until_ok (m r : Int) (w : World) (h : 0 < m) (h2 : m ≤ 9223372036854775807) (hr : 0 < r) (hr2 : r ≤ 9223372036854775807) :
    Calls Try.prog 20 #[.int .i64 m, .int .i64 r] w fun e w' => e = .returned (.tuple #[.int .i64 (upD m r), .int .i64 0]) ∧ w' = w := by
  go_enter Try.func20, Try.ntmps20
  go_wp2_with (go_at_call 31; refine (shareUp_any _ _ _ (by omega) (by omega) (by omega) (by omega)).mono ?_; rintro e w' ⟨rfl, rfl⟩)
  go_ret2
  exact ⟨rfl, rfl⟩
end Go.Proofs.Ytbdolfnnohdmhaa
