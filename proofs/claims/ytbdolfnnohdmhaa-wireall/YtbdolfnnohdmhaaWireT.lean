/-
  The head of layer 5's statements ('takes'): it answers true, and writes nothing. Conditions: none.
-/
import Derived.Test.YtbdolfnnohdmhaaWire
namespace Go.Proofs.Ytbdolfnnohdmhaa
open Go.RowKit

theorem T1 (w : World) : Calls Try.prog 14 #[.int .i64 64, .int .i64 10] w fun r w' => r = .returned (.tuple #[.int .i64 67200, .int .i64 0]) ∧ w' = w := Time_ok 64 10 w (by decide) (by decide) (by decide)
theorem T2 (w : World) : Calls Try.prog 14 #[.int .i64 64, .int .i64 1000] w fun r w' => r = .returned (.tuple #[.int .i64 672, .int .i64 0]) ∧ w' = w := Time_ok 64 1000 w (by decide) (by decide) (by decide)
theorem T3 (w : World) : Calls Try.prog 14 #[.int .i64 65, .int .i64 10000] w fun r w' => r = .returned (.tuple #[.int .i64 68, .int .i64 0]) ∧ w' = w := Time_ok 65 10000 w (by decide) (by decide) (by decide)
theorem T4 (w : World) : Calls Try.prog 14 #[.int .i64 64, .int .i64 99] w fun r w' => r = .returned (.tuple #[.int .i64 0, .int .i64 1]) ∧ w' = w := Time_bad 64 99 w (.inl (by decide))
theorem T5 (w : World) : Calls Try.prog 18 #[.int .i64 5, .int .i64 6] w fun r w' => r = .returned (.tuple #[.int .i64 11, .int .i64 0]) ∧ w' = w := After_ok 5 6 w (by decide) (by decide) (by decide)
theorem T6 (w : World) : Calls Try.prog 20 #[.int .i64 7, .int .i64 2] w fun r w' => r = .returned (.tuple #[.int .i64 4, .int .i64 0]) ∧ w' = w := Until_ok 7 2 w (by decide) (by decide) (by decide) (by decide)
theorem T7 (w : World) : Calls Try.prog 19 #[.int .i64 3, .int .i64 4] w fun r w' => r = .returned (.tuple #[.int .i64 12, .int .i64 0]) ∧ w' = w := Credit_ok 3 4 w (by decide) (by decide) (by decide) (by decide)
theorem T8 (w : World) : Calls Try.prog 15 #[.int .i64 100] w fun r w' => r = .returned (.bool true) ∧ w' = w := Speed_any 100 w
theorem T9 (w : World) : Calls Try.prog 15 #[.int .i64 0] w fun r w' => r = .returned (.bool false) ∧ w' = w := Speed_any 0 w
theorem T10 (w : World) : Calls Try.prog 17 #[.int .i64 672, .int .i64 1000] w fun r w' => r = .returned (.int .i64 64) ∧ w' = w := Fit_ok 672 1000 w (by decide)
theorem takes_any (w : World) : Calls Try.prog 13 #[] w fun r w' => r = .returned (.bool true) ∧ w' = w := by
  go_enter Try.func13, Try.ntmps13
  go_wp2_with fail
  refine (T1 _).mono ?_
  rintro e w' ⟨rfl, rfl⟩
  go_wp2_with fail
  refine (T2 _).mono ?_
  rintro e w' ⟨rfl, rfl⟩
  go_wp2_with fail
  refine (T3 _).mono ?_
  rintro e w' ⟨rfl, rfl⟩
  go_wp2_with fail
  refine (T4 _).mono ?_
  rintro e w' ⟨rfl, rfl⟩
  go_wp2_with fail
  refine (T5 _).mono ?_
  rintro e w' ⟨rfl, rfl⟩
  go_wp2_with fail
  refine (T6 _).mono ?_
  rintro e w' ⟨rfl, rfl⟩
  go_wp2_with fail
  refine (T7 _).mono ?_
  rintro e w' ⟨rfl, rfl⟩
  go_wp2_with fail
  refine (T8 _).mono ?_
  rintro e w' ⟨rfl, rfl⟩
  go_wp2_with fail
  refine (T9 _).mono ?_
  rintro e w' ⟨rfl, rfl⟩
  go_wp2_with fail
  refine (T10 _).mono ?_
  rintro e w' ⟨rfl, rfl⟩
  go_wp2
  go_ret
  exact ⟨rfl, rfl⟩
end Go.Proofs.Ytbdolfnnohdmhaa
