/-
  Contract of wire.All over a row of numbers. Conditions: those that each theorem names.
-/
import Derived.Test.YtmakaadmjgakaaaDoorWire
import Derived.OpenShut
namespace Go.Proofs.YtmakaadmjgakaaaDoor
open Go.RowKit

/-- A row of numbers in memory. -/
def Is (w : World) (a : Option Addr) (n : Nat) (zs : List Int) : Prop := ∀ i, i < n → ∃ b off, a = some ⟨b, off, none⟩ ∧ w.cell? ⟨b, off + i, none⟩ = some (.int .i64 (zs.getD i 0))
def sumT (s : Int) (zs : List Int) : Nat → Int
  | 0 => 0
  | k + 1 => sumT s zs k + timeT (zs.getD k 0) s
def codeT (s : Int) (zs : List Int) : Nat → Int
  | 0 => 0
  | k + 1 => if codeT s zs k = 0 then timeE (zs.getD k 0) s else codeT s zs k
theorem timeE_two (b s : Int) : timeE b s = 0 ∨ timeE b s = 1 := by unfold timeE; split <;> simp
theorem timeT_bounds (b s : Int) : 0 ≤ timeT b s ∧ timeT b s ≤ 1233600 := by
  unfold timeT
  split
  · decide
  · rename_i h
    have hs : spB s = true := by cases hs : spB s <;> simp_all
    rcases spB_cases hs with rfl | rfl | rfl | rfl <;> (unfold upD; omega)
theorem timeT_mono (a b s : Int) (h0 : 0 ≤ a) (h : a ≤ b) (hb : timeE b s = 0) : timeT a s ≤ timeT b s := by
  unfold timeE at hb
  split at hb
  · simp at hb
  · rename_i h1
    unfold timeT
    have hs : spB s = true := by cases hs : spB s <;> simp_all
    rw [if_neg h1, if_neg (by simp only [hs, Bool.true_eq_false, false_or] at h1 ⊢; omega)]
    rcases spB_cases hs with rfl | rfl | rfl | rfl <;> (unfold upD; omega)
theorem sumT_bounds (s : Int) (zs : List Int) : ∀ k : Nat, 0 ≤ sumT s zs k ∧ sumT s zs k ≤ 1233600 * (k : Int)
  | 0 => by simp [sumT]
  | k + 1 => by
    have h1 := sumT_bounds s zs k
    have h2 := timeT_bounds (zs.getD k 0) s
    simp only [sumT]
    omega
theorem codeT_two (s : Int) (zs : List Int) : ∀ k : Nat, codeT s zs k = 0 ∨ codeT s zs k = 1
  | 0 => .inl rfl
  | k + 1 => by
    have h1 := codeT_two s zs k
    have h2 := timeE_two (zs.getD k 0) s
    simp only [codeT]
    split <;> assumption
theorem codeT_le (s : Int) (zs : List Int) (k : Nat) : ∀ d : Nat, codeT s zs k = 1 → codeT s zs (k + d) = 1
  | 0, h => h
  | d + 1, h => by
    have := codeT_le s zs k d h
    show codeT s zs (k + d + 1) = 1
    simp only [codeT, this]
    simp
theorem codeT_succ0 (s : Int) (zs : List Int) (k : Nat) (h : codeT s zs k = 0) : codeT s zs (k + 1) = timeE (zs.getD k 0) s := by simp [codeT, h]
def allA (s : Int) (zs : List Int) (n : Nat) : Int := if codeT s zs n = 0 then sumT s zs n else 0
theorem All_any (s : Int) (a : Option Addr) (n cap : Nat) (zs : List Int) (w : World) (hn : n ≤ 100) (hI : Hid (Is w a n zs)) :
    Calls Tryd.prog 24 #[.int .i64 s, .slice a n cap] w fun r w' => r = .returned (.tuple #[.int .i64 (allA s zs n), .int .i64 (codeT s zs n)]) ∧ w' = w := by
  go_enter Tryd.func24, Tryd.ntmps24
  go_wp2
  go_loop [6, 13] (fun x i => ∃ j : Nat, j ≤ n ∧ i = .int .i64 j ∧ x = .int .i64 (sumT s zs j) ∧ Hid (codeT s zs j = 0)) (fun _ i => n - (intOf i).toNat)
  case atStart => exact ⟨0, Nat.zero_le _, rfl, rfl, hide rfl⟩
  case round =>
    obtain ⟨j, hj, rfl, rfl, hC⟩ := hrel
    by_cases hlt : j < n
    · obtain ⟨b, off, rfl, hcj⟩ := hI.out j hlt
      have hT := hide (Time_any (zs.getD j 0) s w)
      have hS : Hid (sumT s zs (j + 1) = sumT s zs j + timeT (zs.getD j 0) s) := rfl
      have hC1 := hide (codeT_succ0 s zs j hC.out)
      have hb1 := sumT_bounds s zs j
      have hb2 := timeT_bounds (zs.getD j 0) s
      have hE2 := timeE_two (zs.getD j 0) s
      obtain ⟨hb3, hb4⟩ := hb1
      obtain ⟨hb5, hb6⟩ := hb2
      generalize zs.getD j 0 = z at *
      generalize timeT z s = t at *
      generalize sumT s zs j = u at *
      rcases hE2 with hE | hE
      · rw [hE] at hT hC1
        clear hE
        go_wp2_with (go_at_call 23; refine hT.out.mono ?_; rintro e w' ⟨rfl, rfl⟩)
        go_round
        case rel => exact ⟨j + 1, by omega, by go_num, by rw [hS.out], hide hC1.out⟩
        case measure => simp [intOf]; omega
      · rw [hE] at hT hC1
        clear hE
        go_wp2_with (go_at_call 23; refine hT.out.mono ?_; rintro e w' ⟨rfl, rfl⟩)
        go_ret2
        have := codeT_le s zs (j + 1) (n - (j + 1)) hC1.out
        rw [show j + 1 + (n - (j + 1)) = n by omega] at this
        refine ⟨?_, rfl⟩
        rw [allA, this]
        rfl
    · go_wp2
      go_ret2
      obtain rfl : j = n := by omega
      refine ⟨?_, rfl⟩
      rw [allA, hC.out]
      rfl

theorem Is_of_row {w : World} {a : Option Addr} {len cap : Nat} {zs : List Int}
    (h : (a = none ∧ len = 0 ∧ cap = 0 ∧ zs = []) ∨ ∃ x, a = some x ∧ len ≤ cap ∧ cap ≤ maxLen ∧ zs.length = cap ∧ (∀ i, i < zs.length → w.cell? (x.add i) = some (.int .i64 (zs.getD i 0))) ∧ ∀ n ∈ zs, (Lit.int .i64 n).wf = true) :
    Is w a len zs ∧ len ≤ maxLen ∧ cap ≤ maxLen ∧ ∀ i, -9223372036854775808 ≤ zs.getD i 0 ∧ zs.getD i 0 ≤ 9223372036854775807 := by
  rcases h with ⟨rfl, rfl, rfl, rfl⟩ | ⟨x, rfl, h1, h2, h3, h4, h5⟩
  · exact ⟨fun i hi => by omega, Nat.zero_le _, Nat.zero_le _, fun i => by simp⟩
  · refine ⟨fun i hi => ?_, by omega, h2, fun i => ?_⟩
    · obtain ⟨b, off, rfl, hc⟩ := ints_at h4 (by omega)
      exact ⟨b, off, rfl, hc i (by omega)⟩
    · have hb := range_i64 h5 i
      rw [← List.getD_eq_getElem?_getD] at hb
      exact hb

end Go.Proofs.YtmakaadmjgakaaaDoor
