/-
  Contracts of package wire (Speed, shareUp, Time, Fit, After, Credit, Until), and of the head of layer 5's statements. Conditions: those that each theorem names.
-/
import Derived.Test.YtmakaadmjgakaaaDoorMem
import Derived.Test.YtmakaadmjgakaaaDoorChecked
import Derived.Deep.Light
namespace Go.Proofs.YtmakaadmjgakaaaDoor
open Go.RowKit

theorem wret_bool {a b : Bool} (h : a = b) : Ending.returned (.bool a) = .returned (.bool b) := by rw [h]
theorem wret_i64 {a b : Int} (h : a = b) : Ending.returned (.int .i64 a) = .returned (.int .i64 b) := by rw [h]
theorem wret_two {a b c d : Int} (h : a = b) (h2 : c = d) : Ending.returned (.tuple #[.int .i64 a, .int .i64 c]) = .returned (.tuple #[.int .i64 b, .int .i64 d]) := by rw [h, h2]

/-- A wire's speed. -/
def spB (n : Int) : Bool := decide (n = 10 ∨ n = 100 ∨ n = 1000 ∨ n = 10000)
theorem Speed_any (n : Int) (w : World) : Calls Tryd.prog 19 #[.int .i64 n] w fun r w' => r = .returned (.bool (spB n)) ∧ w' = w := by
  go_enter Tryd.func19, Tryd.ntmps19
  go_wp2
  all_goals
    go_ret
    refine ⟨wret_bool ?_, rfl⟩
    go_light
    rw [Bool.eq_iff_iff]
    simp [spB]
    try omega
/-- Rounded up. -/
def upD (n b : Int) : Int := (n - 1) / b + 1
theorem upD_bounds (n b : Int) (hn : 0 < n) (hb : 0 < b) : 0 ≤ (n - 1) / b ∧ (n - 1) / b ≤ n - 1 :=
  ⟨Int.ediv_nonneg (by omega) (by omega), Int.ediv_le_self _ (by omega)⟩
theorem shareUp_any (n b : Int) (w : World) (hn : 0 < n) (hn2 : n ≤ 9223372036854775807) (hb : 0 < b) (hb2 : b ≤ 9223372036854775807) :
    Calls Tryd.prog 58 #[.int .i64 n, .int .i64 b] w fun r w' => r = .returned (.int .i64 (upD n b)) ∧ w' = w := by
  obtain ⟨h1, h2⟩ := upD_bounds n b hn hb
  go_enter Tryd.func58, Tryd.ntmps58
  go_wp2
  go_ret
  exact ⟨rfl, rfl⟩
/-- A frame's time on a wire, and the error beside it. -/
def timeE (b s : Int) : Int := if spB s = false ∨ b < 0 ∨ 1522 < b then 1 else 0
def timeT (b s : Int) : Int := if spB s = false ∨ b < 0 ∨ 1522 < b then 0 else upD ((b + 20) * 8000) s
theorem Time_bad (b s : Int) (w : World) (h : spB s = false ∨ b < 0 ∨ 1522 < b) :
    Calls Tryd.prog 23 #[.int .i64 b, .int .i64 s] w fun r w' => r = .returned (.tuple #[.int .i64 0, .int .i64 1]) ∧ w' = w := by
  cases hs : spB s
  · clear h
    go_enter Tryd.func23, Tryd.ntmps23
    go_wp2_with (go_at_call 19; refine (Speed_any _ _).mono ?_; rintro e w' ⟨rfl, rfl⟩; rw [hs])
    go_ret2
    exact ⟨rfl, rfl⟩
  · rcases (show b < 0 ∨ (0 ≤ b ∧ 1522 < b) by simp [hs] at h; omega) with h1 | ⟨h1, h2⟩
    all_goals
      clear h
      go_enter Tryd.func23, Tryd.ntmps23
      go_wp2_with (go_at_call 19; refine (Speed_any _ _).mono ?_; rintro e w' ⟨rfl, rfl⟩; rw [hs])
      go_ret2
      exact ⟨rfl, rfl⟩
theorem spB_cases {s : Int} (hs : spB s = true) : s = 10 ∨ s = 100 ∨ s = 1000 ∨ s = 10000 := by simpa [spB] using hs
theorem Time_ok (b s : Int) (w : World) (hs : spB s = true) (h1 : 0 ≤ b) (h2 : b ≤ 1522) :
    Calls Tryd.prog 23 #[.int .i64 b, .int .i64 s] w fun r w' => r = .returned (.tuple #[.int .i64 (upD ((b + 20) * 8000) s), .int .i64 0]) ∧ w' = w := by
  have hs2 := spB_cases hs
  have e : (8 + b + 12) * 8 * 1000 = (b + 20) * 8000 := by omega
  go_enter Tryd.func23, Tryd.ntmps23
  go_wp2_with (first
    | (go_at_call 19; refine (Speed_any _ _).mono ?_; rintro e w' ⟨rfl, rfl⟩; rw [hs])
    | (go_at_call 58; refine (shareUp_any _ _ _ (by omega) (by omega) (by omega) (by omega)).mono ?_; rintro e w' ⟨rfl, rfl⟩))
  go_ret2
  exact ⟨rfl, rfl⟩
theorem Time_any (b s : Int) (w : World) :
    Calls Tryd.prog 23 #[.int .i64 b, .int .i64 s] w fun r w' => r = .returned (.tuple #[.int .i64 (timeT b s), .int .i64 (timeE b s)]) ∧ w' = w := by
  by_cases h : spB s = false ∨ b < 0 ∨ 1522 < b
  · simp only [timeT, timeE, if_pos h]; exact Time_bad b s w h
  · simp only [timeT, timeE, if_neg h]
    exact Time_ok b s w (by cases hs : spB s <;> simp_all) (by omega) (by omega)
def fitN (t s : Int) : Int := if t < upD 160000 s then -1 else if upD 12336000 s ≤ t then 1522 else t * s / 8000 - 20
end Go.Proofs.YtmakaadmjgakaaaDoor
