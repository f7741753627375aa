/-
  Contract of wire.All over a row of numbers, and the walk of the statement WireAll. Conditions: those that each theorem names.
-/
import Derived.Test.YtbdolfnnohdmhaaWireT
import Derived.OpenShut
namespace Go.Proofs.Ytbdolfnnohdmhaa
open Go.RowKit

/-- A row of numbers in memory. -/
def Is (w : World) (a : Option Addr) (n : Nat) (zs : List Int) : Prop := ∀ i, i < n → ∃ b off, a = some ⟨b, off, none⟩ ∧ w.cell? ⟨b, off + i, none⟩ = some (.int .i64 (zs.getD i 0))
def sumT (s : Int) (zs : List Int) : Nat → Int
  | 0 => 0
  | k + 1 => sumT s zs k + timeT (zs.getD k 0) s
def codeT (s : Int) (zs : List Int) : Nat → Int
  | 0 => 0
  | k + 1 => if codeT s zs k = 0 then timeE (zs.getD k 0) s else codeT s zs k
theorem timeE_two (b s : Int) : timeE b s = 0 ∨ timeE b s = 1 := by unfold timeE; split <;> simp
theorem timeT_bounds (b s : Int) : 0 ≤ timeT b s ∧ timeT b s ≤ 1233600 := by
  unfold timeT
  split
  · decide
  · rename_i h
    have hs : spB s = true := by cases hs : spB s <;> simp_all
    rcases spB_cases hs with rfl | rfl | rfl | rfl <;> (unfold upD; omega)
theorem timeT_mono (a b s : Int) (h0 : 0 ≤ a) (h : a ≤ b) (hb : timeE b s = 0) : timeT a s ≤ timeT b s := by
  unfold timeE at hb
  split at hb
  · simp at hb
  · rename_i h1
    unfold timeT
    have hs : spB s = true := by cases hs : spB s <;> simp_all
    rw [if_neg h1, if_neg (by simp only [hs, Bool.true_eq_false, false_or] at h1 ⊢; omega)]
    rcases spB_cases hs with rfl | rfl | rfl | rfl <;> (unfold upD; omega)
theorem sumT_bounds (s : Int) (zs : List Int) : ∀ k : Nat, 0 ≤ sumT s zs k ∧ sumT s zs k ≤ 1233600 * (k : Int)
  | 0 => by simp [sumT]
  | k + 1 => by
    have h1 := sumT_bounds s zs k
    have h2 := timeT_bounds (zs.getD k 0) s
    simp only [sumT]
    omega
theorem codeT_two (s : Int) (zs : List Int) : ∀ k : Nat, codeT s zs k = 0 ∨ codeT s zs k = 1
  | 0 => .inl rfl
  | k + 1 => by
    have h1 := codeT_two s zs k
    have h2 := timeE_two (zs.getD k 0) s
    simp only [codeT]
    split <;> assumption
theorem codeT_le (s : Int) (zs : List Int) (k : Nat) : ∀ d : Nat, codeT s zs k = 1 → codeT s zs (k + d) = 1
  | 0, h => h
  | d + 1, h => by
    have := codeT_le s zs k d h
    show codeT s zs (k + d + 1) = 1
    simp only [codeT, this]
    simp
theorem codeT_succ0 (s : Int) (zs : List Int) (k : Nat) (h : codeT s zs k = 0) : codeT s zs (k + 1) = timeE (zs.getD k 0) s := by simp [codeT, h]
def allA (s : Int) (zs : List Int) (n : Nat) : Int := if codeT s zs n = 0 then sumT s zs n else 0
theorem All_any (s : Int) (a : Option Addr) (n cap : Nat) (zs : List Int) (w : World) (hn : n ≤ 100) (hI : Hid (Is w a n zs)) :
    Calls Try.prog 16 #[.int .i64 s, .slice a n cap] w fun r w' => r = .returned (.tuple #[.int .i64 (allA s zs n), .int .i64 (codeT s zs n)]) ∧ w' = w := by
  go_enter Try.func16, Try.ntmps16
  go_wp2
  go_loop [6, 13] (fun x i => ∃ j : Nat, j ≤ n ∧ i = .int .i64 j ∧ x = .int .i64 (sumT s zs j) ∧ Hid (codeT s zs j = 0)) (fun _ i => n - (intOf i).toNat)
  case atStart => exact ⟨0, Nat.zero_le _, rfl, rfl, hide rfl⟩
  case round =>
    obtain ⟨j, hj, rfl, rfl, hC⟩ := hrel
    by_cases hlt : j < n
    · obtain ⟨b, off, rfl, hcj⟩ := hI.out j hlt
      have hT := hide (Time_any (zs.getD j 0) s w)
      have hS : Hid (sumT s zs (j + 1) = sumT s zs j + timeT (zs.getD j 0) s) := rfl
      have hC1 := hide (codeT_succ0 s zs j hC.out)
      have hb1 := sumT_bounds s zs j
      have hb2 := timeT_bounds (zs.getD j 0) s
      have hE2 := timeE_two (zs.getD j 0) s
      obtain ⟨hb3, hb4⟩ := hb1
      obtain ⟨hb5, hb6⟩ := hb2
      generalize zs.getD j 0 = z at *
      generalize timeT z s = t at *
      generalize sumT s zs j = u at *
      rcases hE2 with hE | hE
      · rw [hE] at hT hC1
        clear hE
        go_wp2_with (go_at_call 14; refine hT.out.mono ?_; rintro e w' ⟨rfl, rfl⟩)
        go_round
        case rel => exact ⟨j + 1, by omega, by go_num, by rw [hS.out], hide hC1.out⟩
        case measure => simp [intOf]; omega
      · rw [hE] at hT hC1
        clear hE
        go_wp2_with (go_at_call 14; refine hT.out.mono ?_; rintro e w' ⟨rfl, rfl⟩)
        go_ret2
        have := codeT_le s zs (j + 1) (n - (j + 1)) hC1.out
        rw [show j + 1 + (n - (j + 1)) = n by omega] at this
        refine ⟨?_, rfl⟩
        rw [allA, this]
        rfl
    · go_wp2
      go_ret2
      obtain rfl : j = n := by omega
      refine ⟨?_, rfl⟩
      rw [allA, hC.out]
      rfl

theorem Is_of_row {w : World} {a : Option Addr} {len cap : Nat} {zs : List Int}
    (h : (a = none ∧ len = 0 ∧ cap = 0 ∧ zs = []) ∨ ∃ x, a = some x ∧ len ≤ cap ∧ cap ≤ maxLen ∧ zs.length = cap ∧ (∀ i, i < zs.length → w.cell? (x.add i) = some (.int .i64 (zs.getD i 0))) ∧ ∀ n ∈ zs, (Lit.int .i64 n).wf = true) :
    Is w a len zs ∧ len ≤ maxLen ∧ cap ≤ maxLen ∧ ∀ i, -9223372036854775808 ≤ zs.getD i 0 ∧ zs.getD i 0 ≤ 9223372036854775807 := by
  rcases h with ⟨rfl, rfl, rfl, rfl⟩ | ⟨x, rfl, h1, h2, h3, h4, h5⟩
  · exact ⟨fun i hi => by omega, Nat.zero_le _, Nat.zero_le _, fun i => by simp⟩
  · refine ⟨fun i hi => ?_, by omega, h2, fun i => ?_⟩
    · obtain ⟨b, off, rfl, hc⟩ := ints_at h4 (by omega)
      exact ⟨b, off, rfl, hc i (by omega)⟩
    · have hb := range_i64 h5 i
      rw [← List.getD_eq_getElem?_getD] at hb
      exact hb

theorem All_far (s : Int) (a : Option Addr) (n cap : Nat) (w : World) (hn : 100 < n) (hm : n ≤ maxLen) :
    Calls Try.prog 4 #[.int .i64 s, .slice a n cap] w fun r w' => r = .returned (.bool true) ∧ w' = w := by
  unfold maxLen at hm
  go_enter Try.func4, Try.ntmps4
  go_wp2_with fail
  refine (takes_any _).mono ?_
  rintro e w' ⟨rfl, rfl⟩
  go_wp2
  go_ret
  exact ⟨rfl, rfl⟩
set_option maxHeartbeats 4000000 in
theorem All_walk (s : Int) (a : Option Addr) (n cap : Nat) (zs : List Int) (w : World) (hI : Hid (Is w a n zs)) (hm : n ≤ maxLen) (hz : Hid (∀ i, -9223372036854775808 ≤ zs.getD i 0 ∧ zs.getD i 0 ≤ 9223372036854775807)) :
    Calls Try.prog 4 #[.int .i64 s, .slice a n cap] w fun r w' => r = .returned (.bool true) ∧ w' = w := by
  by_cases hn : 100 < n
  · exact All_far s a n cap w hn hm
  have hn' : n ≤ 100 := by omega
  clear hn hm
  have HA := hide (All_any s a n cap zs w hn' hI)
  generalize hAe : allA s zs n = A at *
  generalize hCe : codeT s zs n = C at *
  have hAe' := hide hAe
  have hCe' := hide hCe
  clear hAe hCe
  go_enter Try.func4, Try.ntmps4
  go_wp2_with fail
  refine (takes_any _).mono ?_
  rintro e w' ⟨rfl, rfl⟩
  go_wp2_with fail
  refine HA.out.mono ?_
  rintro e w' ⟨rfl, rfl⟩
  go_wp2
  go_loop [7, 8, 28] (fun x c i => ∃ j : Nat, j ≤ n ∧ i = .int .i64 j ∧ x = .int .i64 (sumT s zs j) ∧ c = .int .i64 (codeT s zs j)) (fun _ _ i => n - (intOf i).toNat)
  case atStart => exact ⟨0, Nat.zero_le _, rfl, rfl, rfl⟩
  case round =>
    obtain ⟨j, hj, rfl, rfl, rfl⟩ := hrel
    by_cases hlt : j < n
    · obtain ⟨b, off, rfl, hcj⟩ := hI.out j hlt
      have hT := hide (Time_any (zs.getD j 0) s w')
      have hS : Hid (sumT s zs (j + 1) = sumT s zs j + timeT (zs.getD j 0) s) := rfl
      have hC1 : Hid (codeT s zs (j + 1) = if codeT s zs j = 0 then timeE (zs.getD j 0) s else codeT s zs j) := rfl
      obtain ⟨hb3, hb4⟩ := sumT_bounds s zs j
      obtain ⟨hb5, hb6⟩ := timeT_bounds (zs.getD j 0) s
      have hE2 := timeE_two (zs.getD j 0) s
      have hC2 := codeT_two s zs j
      have hP : Hid (0 < j → w'.cell? ⟨b, off + (j - 1), none⟩ = some (.int .i64 (zs.getD (j - 1) 0)) ∧ (0 ≤ zs.getD (j - 1) 0 → zs.getD (j - 1) 0 ≤ zs.getD j 0 → timeE (zs.getD j 0) s = 0 → timeT (zs.getD (j - 1) 0) s ≤ timeT (zs.getD j 0) s)) := fun h0 => by
        obtain ⟨b', off', e, hc'⟩ := hI.out (j - 1) (by omega)
        simp only [Option.some.injEq, Addr.mk.injEq, and_true] at e
        obtain ⟨rfl, rfl⟩ := e
        exact ⟨hc', fun h1 h2 h3 => timeT_mono _ _ s h1 h2 h3⟩
      have hT' : Hid (Calls Try.prog 14 #[.int .i64 (zs.getD (j - 1) 0), .int .i64 s] w' fun r w'' => r = .returned (.tuple #[.int .i64 (timeT (zs.getD (j - 1) 0) s), .int .i64 (timeE (zs.getD (j - 1) 0) s)]) ∧ w'' = w') := Time_any (zs.getD (j - 1) 0) s w'
      have hzp := hz.out (j - 1)
      generalize zs.getD j 0 = z at *
      generalize zs.getD (j - 1) 0 = p at *
      generalize timeT z s = t at *
      generalize timeT p s = tp at *
      generalize timeE z s = f at *
      generalize timeE p s = fp at *
      generalize sumT s zs j = u at *
      generalize codeT s zs j = c at *
      rcases Nat.eq_zero_or_pos j with rfl | h0
      · clear hP hT'
        simp only [Nat.add_zero] at hcj
        rcases hE2 with rfl | rfl <;> rcases hC2 with rfl | rfl
        all_goals
          go_wp2_with (go_at_call 14; refine hT.out.mono ?_; rintro e w'' ⟨rfl, rfl⟩)
          go_round
          case rel => exact ⟨0 + 1, by omega, by go_num, by rw [hS.out], by rw [hC1.out]; rfl⟩
          case measure => simp [intOf]; omega
      · obtain ⟨hcp, hmono⟩ := hP.out h0
        have hj1 : ((j : Int) - 1).toNat = j - 1 := by omega
        have hM := hide hmono
        clear hP hmono
        rcases hE2 with rfl | rfl
        · rcases (show p < 0 ∨ (0 ≤ p ∧ z < p) ∨ (0 ≤ p ∧ p ≤ z) by omega) with k1 | ⟨k1, k2⟩ | ⟨k1, k2⟩
          · rcases hC2 with rfl | rfl
            all_goals
              go_wp2_with (go_at_call 14; refine hT.out.mono ?_; rintro e w'' ⟨rfl, rfl⟩)
              go_round
              case rel => exact ⟨j + 1, by omega, by go_num, by rw [hS.out], by rw [hC1.out]; rfl⟩
              case measure => simp [intOf]; omega
          · rcases hC2 with rfl | rfl
            all_goals
              go_wp2_with (go_at_call 14; refine hT.out.mono ?_; rintro e w'' ⟨rfl, rfl⟩)
              go_round
              case rel => exact ⟨j + 1, by omega, by go_num, by rw [hS.out], by rw [hC1.out]; rfl⟩
              case measure => simp [intOf]; omega
          · have hle := hM.out k1 k2 rfl
            rcases hC2 with rfl | rfl
            all_goals
              go_wp2_with fail
              refine hT.out.mono ?_
              rintro e w'' ⟨rfl, rfl⟩
              go_wp2_with fail
              refine hT'.out.mono ?_
              rintro e w'' ⟨rfl, rfl⟩
              go_wp2
              go_round
              case rel => exact ⟨j + 1, by omega, by go_num, by rw [hS.out], by rw [hC1.out]; rfl⟩
              case measure => simp [intOf]; omega
        · rcases hC2 with rfl | rfl
          all_goals
            go_wp2_with (go_at_call 14; refine hT.out.mono ?_; rintro e w'' ⟨rfl, rfl⟩)
            go_round
            case rel => exact ⟨j + 1, by omega, by go_num, by rw [hS.out], by rw [hC1.out]; rfl⟩
            case measure => simp [intOf]; omega
    · obtain rfl : j = n := by omega
      have hA := hAe'.out
      have hC := hCe'.out
      rcases codeT_two s zs j with h | h
      · rw [h] at hC
        simp only [allA, h, if_true] at hA
        subst hA hC
        rw [h]
        go_wp2
        go_ret
        exact ⟨rfl, rfl⟩
      · rw [h] at hC
        simp only [allA, h, Int.one_ne_zero, if_false] at hA
        subst hA hC
        rw [h]
        go_wp2
        go_ret
        exact ⟨rfl, rfl⟩
end Go.Proofs.Ytbdolfnnohdmhaa
