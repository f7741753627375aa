/-
  RingRound, walked. Conditions: those that each theorem names.
-/
import Derived.Test.YtjfjohbibkidhaaRing8
namespace Go.Proofs.Ytjfjohbibkidhaa
open Go.RowKit
set_option linter.unusedVariables false

theorem updN_updN {α : Type} (f : Nat → α) (k : Nat) (a b : α) : updN (updN f k a) k b = updN f k b := by
  funext i
  by_cases h : i = k
  · subst h; rw [updN_same, updN_same]
  · rw [updN_other _ _ _ _ h, updN_other _ _ _ _ h, updN_other _ _ _ _ h]
theorem RPush_at {W w : World} {g : Nat} {f : Nat → List Int} {b ls : Nat → Nat} (k : Nat) (hk : k < 8) (l : List Int) (h : Rg W w g (updN f k l) b ls) (id : Int) (hf : l.length < b k) (hs : b k ≤ 100000) :
    Calls Try.prog 16 #[.pointer (some ⟨g, 0, none⟩), .int .i64 k, .int .i64 id] w fun e w' => e = .returned (.int .i64 0) ∧ Rg W w' g (updN f k (l ++ [id])) b ls := by
  have := RPush_ok h k hk id (by rw [updN_same]; exact hf) hs
  rwa [updN_same, updN_updN] at this
theorem RPop_at {W w : World} {g : Nat} {f : Nat → List Int} {b ls : Nat → Nat} (k : Nat) (hk : k < 8) (x : Int) (r : List Int) (h : Rg W w g (updN f k (x :: r)) b ls) :
    Calls Try.prog 18 #[.pointer (some ⟨g, 0, none⟩), .int .i64 k] w fun e w' => e = .returned (.tuple #[.int .i64 x, .int .i64 0]) ∧ Rg W w' g (updN f k r) b ls := by
  have := RPop_yes h k hk x r (updN_same _ _ _)
  rwa [updN_updN] at this
theorem RLen_at {W w : World} {g : Nat} {f : Nat → List Int} {b ls : Nat → Nat} (k : Nat) (hk : k < 8) (l : List Int) (h : Rg W w g (updN f k l) b ls) :
    Calls Try.prog 21 #[.pointer (some ⟨g, 0, none⟩), .int .i64 k] w fun e w' => e = .returned (.int .i64 l.length) ∧ w' = w := by
  have := RLen h k hk
  rwa [updN_same] at this
/-- The numbers from s on, below e. -/
def seg (s e : Nat) : List Int := (List.range (e - s)).map fun i => ((s + i : Nat) : Int)
theorem seg_len (s e : Nat) : (seg s e).length = e - s := by simp [seg]
theorem seg_push (s e : Nat) (h : s ≤ e) : seg s (e + 1) = seg s e ++ [(e : Int)] := by
  unfold seg
  rw [show e + 1 - s = (e - s) + 1 by omega, List.range_succ, List.map_append]
  simp only [List.map_cons, List.map_nil]
  rw [show s + (e - s) = e by omega]
theorem seg_pop (s e : Nat) (h : s < e) : seg s e = (s : Int) :: seg (s + 1) e := by
  unfold seg
  rw [show e - s = (e - (s + 1)) + 1 by omega, List.range_succ_eq_map, List.map_cons, List.map_map]
  congr 1
  apply List.map_congr_left
  intro i _
  show (((s + (i + 1) : Nat)) : Int) = ((s + 1 + i : Nat) : Int)
  congr 1
  omega
theorem seg_nil (s : Nat) : seg s s = [] := by simp [seg]
theorem Round_in (bn mn an : Nat) (w : World) (h1 : 1 ≤ bn) (h2 : bn ≤ 100) (h3 : mn ≤ 1000) (h4 : 1 ≤ an) (h5 : an ≤ bn) :
    Calls Try.prog 4 #[.int .i64 bn, .int .i64 mn, .int .i64 an] w fun r w' => r = .returned (.bool true) ∧ Below w.heap.size w w' := by
  have hO := hide (fun w => waits_any w)
  have hb3 : bndN (bn : Int) = bn := by unfold bndN; omega
  have d1 : decide ((bn : Int) < 1) = false := decide_eq_false (by omega)
  have d2 : decide (100 < (bn : Int)) = false := decide_eq_false (by omega)
  have d3 : decide ((mn : Int) < 0) = false := decide_eq_false (by omega)
  have d4 : decide (1000 < (mn : Int)) = false := decide_eq_false (by omega)
  have d5 : decide ((an : Int) < 1) = false := decide_eq_false (by omega)
  have d6 : decide ((bn : Int) < (an : Int)) = false := decide_eq_false (by omega)
  have d7 : decide (bn < an) = false := decide_eq_false (by omega)
  go_enter Try.func4, Try.ntmps4
  go_wp2_with fail
  refine (hO.out _).mono ?_
  rintro e w1 ⟨rfl, hb1⟩
  replace hb1 := hide hb1
  go_wp2_with fail
  refine (RNew w w1 hb1.out 0 0 0 bn 0 0 0 0).mono ?_
  rintro e w2 ⟨rfl, h⟩
  replace h := hide h
  generalize w1.heap.size + 1 = g at *
  have hR0 : Hid (Rg w w2 g (updN (fun _ => []) 3 (seg 0 0)) (fun k => bndN ([0, 0, 0, (bn : Int), 0, 0, 0, 0].getD k 0)) (fun _ => 0)) := by
    rw [seg_nil, show updN (fun _ => ([] : List Int)) 3 [] = fun _ => [] from updN_self (fun _ => ([] : List Int)) 3]
    exact h
  clear h hb1 hO
  generalize hbb : (fun k => bndN ([0, 0, 0, (bn : Int), 0, 0, 0, 0].getD k 0)) = bb at *
  have hb33 : Hid (bb 3 = bn) := by rw [← hbb]; exact hb3
  clear hbb hb3
  go_wp2
  go_loopw [8, 41] (fun x i wr => ∃ nx j : Nat, j ≤ mn ∧ nx ≤ j ∧ j - nx < an ∧ x = .int .i64 nx ∧ i = .int .i64 j ∧ Hid (Rg w wr g (updN (fun _ => []) 3 (seg nx j)) bb (fun _ => 0))) (fun _ i _ => mn - (intOf i).toNat)
  case atStart => exact ⟨0, 0, Nat.zero_le _, Nat.zero_le _, by omega, rfl, rfl, hR0⟩
  case round =>
    obtain ⟨nx, j, hj, hn, ha, rfl, rfl, hR⟩ := hrel
    by_cases hlt : j < mn
    · have k1 := hide (RPush_at 3 (by decide) (seg nx j) hR.out (j : Int) (by rw [seg_len, hb33.out]; omega) (by rw [hb33.out]; omega))
      rw [← seg_push nx j hn] at k1
      go_wp2_with fail
      refine k1.out.mono ?_
      rintro e w3 ⟨rfl, hR3⟩
      replace hR3 := hide hR3
      have k2 := hide (RLen_at 3 (by decide) (seg nx (j + 1)) hR3.out)
      rw [seg_len] at k2
      go_wp2_with fail
      refine k2.out.mono ?_
      rintro e w4 ⟨rfl, rfl⟩
      clear k1 k2 hR
      by_cases hmore : j + 1 - nx < an
      · have hm' : ((j + 1 - nx : Nat) : Int) < (an : Int) := by omega
        go_wp2
        go_round
        case rel => exact ⟨nx, j + 1, by omega, by omega, hmore, rfl, by go_num, hR3⟩
        case measure => simp [intOf]; omega
      · have hm' : ¬ ((j + 1 - nx : Nat) : Int) < (an : Int) := by omega
        rw [seg_pop nx (j + 1) (by omega)] at hR3
        have k3 := hide (RPop_at 3 (by decide) (nx : Int) (seg (nx + 1) (j + 1)) hR3.out)
        go_wp2_with fail
        refine k3.out.mono ?_
        rintro e w5 ⟨rfl, hR5⟩
        replace hR5 := hide hR5
        go_wp2
        go_round
        case rel => exact ⟨nx + 1, j + 1, by omega, by omega, by omega, by go_num, by go_num, hR5⟩
        case measure => simp [intOf]; omega
    · obtain rfl : j = mn := by omega
      have k2 := hide (RLen_at 3 (by decide) (seg nx j) hR.out)
      rw [seg_len] at k2
      have k3 := hide (RLost hR.out 3 (by decide))
      go_wp2_with fail
      refine k2.out.mono ?_
      rintro e w4 ⟨rfl, rfl⟩
      have hq : (((j - nx : Nat) : Int) == (j : Int) - (nx : Int)) = true := by rw [beq_iff_eq]; omega
      go_wp2_with fail
      refine k3.out.mono ?_
      rintro e w5 ⟨rfl, rfl⟩
      go_wp2
      go_ret
      exact ⟨rfl, hR.out.bel⟩
theorem Round_out (b m a : Int) (w : World) (h : b < 1 ∨ 100 < b ∨ m < 0 ∨ 1000 < m ∨ a < 1 ∨ b < a) :
    Calls Try.prog 4 #[.int .i64 b, .int .i64 m, .int .i64 a] w fun r w' => r = .returned (.bool true) ∧ Below w.heap.size w w' := by
  have hO := hide (fun w => waits_any w)
  replace h := hide h
  go_enter Try.func4, Try.ntmps4
  go_wp2_with fail
  refine (hO.out _).mono ?_
  rintro e w1 ⟨rfl, hb1⟩
  replace hb1 := hide hb1
  by_cases h0 : b < 1
  · have d0 : decide (b < 1) = true := decide_eq_true h0
    clear h0
    go_wp2
    go_ret
    exact ⟨rfl, hb1.out⟩
  have d0 : decide (b < 1) = false := decide_eq_false h0
  by_cases h1 : 100 < b
  · have d1 : decide (100 < b) = true := decide_eq_true h1
    clear h1
    go_wp2
    go_ret
    exact ⟨rfl, hb1.out⟩
  have d1 : decide (100 < b) = false := decide_eq_false h1
  by_cases h2 : m < 0
  · have d2 : decide (m < 0) = true := decide_eq_true h2
    clear h2
    go_wp2
    go_ret
    exact ⟨rfl, hb1.out⟩
  have d2 : decide (m < 0) = false := decide_eq_false h2
  by_cases h3 : 1000 < m
  · have d3 : decide (1000 < m) = true := decide_eq_true h3
    clear h3
    go_wp2
    go_ret
    exact ⟨rfl, hb1.out⟩
  have d3 : decide (1000 < m) = false := decide_eq_false h3
  by_cases h4 : a < 1
  · have d4 : decide (a < 1) = true := decide_eq_true h4
    clear h4
    go_wp2
    go_ret
    exact ⟨rfl, hb1.out⟩
  have d4 : decide (a < 1) = false := decide_eq_false h4
  have d5 : decide (b < a) = true := decide_eq_true (by have := h.out; omega)
  clear h0 h1 h2 h3 h4
  go_wp2
  go_ret
  exact ⟨rfl, hb1.out⟩
theorem Round_walk (b m a : Int) (w : World) : Calls Try.prog 4 #[.int .i64 b, .int .i64 m, .int .i64 a] w fun r w' => r = .returned (.bool true) ∧ Below w.heap.size w w' := by
  by_cases h : b < 1 ∨ 100 < b ∨ m < 0 ∨ 1000 < m ∨ a < 1 ∨ b < a
  · exact Round_out b m a w h
  · obtain ⟨b', rfl⟩ := Int.eq_ofNat_of_zero_le (show 0 ≤ b by omega)
    obtain ⟨m', rfl⟩ := Int.eq_ofNat_of_zero_le (show 0 ≤ m by omega)
    obtain ⟨a', rfl⟩ := Int.eq_ofNat_of_zero_le (show 0 ≤ a by omega)
    exact Round_in b' m' a' w (by omega) (by omega) (by omega) (by omega) (by omega)
end Go.Proofs.Ytjfjohbibkidhaa
