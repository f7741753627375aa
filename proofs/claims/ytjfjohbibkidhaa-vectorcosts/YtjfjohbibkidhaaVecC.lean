/-
  VectorCosts, walked. Conditions: those that each theorem names.
-/
import Derived.Test.YtjfjohbibkidhaaVec3
namespace Go.Proofs.Ytjfjohbibkidhaa
open Go.RowKit
set_option linter.unusedVariables false

theorem Costs_walk (s : Int) (w : World) : Calls Try.prog 11 #[.int .i64 s] w fun r w' => r = .returned (.bool true) ∧ Below w.heap.size w w' := by
  have hO := hide (fun w => orders_any w)
  have hC := hide (fun w => Cost_any s w)
  go_enter Try.func11, Try.ntmps11
  go_wp2_with fail
  refine (hO.out _).mono ?_
  rintro e w1 ⟨rfl, hb1⟩
  go_wp2_with fail
  refine (hC.out _).mono ?_
  rintro e w2 ⟨rfl, rfl⟩
  clear hO hC
  by_cases h1 : s = 10
  · subst h1
    rw [show costN 10 = 2000000 by decide]
    go_wp2
    go_ret
    exact ⟨rfl, hb1⟩
  · by_cases h2 : s = 100
    · subst h2
      rw [show costN 100 = 200000 by decide]
      go_wp2
      go_ret
      exact ⟨rfl, hb1⟩
    · by_cases h3 : s = 1000
      · subst h3
        rw [show costN 1000 = 20000 by decide]
        go_wp2
        go_ret
        exact ⟨rfl, hb1⟩
      · by_cases h4 : s = 10000
        · subst h4
          rw [show costN 10000 = 2000 by decide]
          go_wp2
          go_ret
          exact ⟨rfl, hb1⟩
        · rw [show costN s = 4294967295 by unfold costN; rw [if_neg h1, if_neg h2, if_neg h3, if_neg h4]]
          have e1 : (s == 10) = false := by simp [h1]
          have e2 : (s == 100) = false := by simp [h2]
          have e3 : (s == 1000) = false := by simp [h3]
          have e4 : (s == 10000) = false := by simp [h4]
          go_wp2
          go_ret
          exact ⟨rfl, hb1⟩
end Go.Proofs.Ytjfjohbibkidhaa
