/-
  A contract of bpdu.readKind. Conditions: those that each theorem names.
-/
import Derived.Test.YtmakaadmjgakaaaDoorBp9
namespace Go.Proofs.YtmakaadmjgakaaaDoor
open Go.RowKit
set_option linter.unusedVariables false

theorem num1 (a : Int) : num [a] = a := by simp [num]
/-- The kind of a message, and an error. -/
def kindE (d : List Int) : Int × Int :=
  if d.length < 7 then (0, 2) else if num (d.take 5) ≠ 284575334400 then (0, 11) else if d.getD 6 0 = 0 then (0, 0) else if d.getD 6 0 = 2 ∧ 2 ≤ d.getD 5 0 then (1, 0) else if d.getD 6 0 = 128 then (2, 0) else (0, 11)
theorem readKind_long {v : Value} {w : World} (a0 a1 a2 a3 a4 a5 a6 : Int) (r : List Int) (hv : Bs w v (a0 :: a1 :: a2 :: a3 :: a4 :: a5 :: a6 :: r)) (hm : r.length ≤ 1000000) :
    Calls Tryd.prog 43 #[v] w fun e w' => e = .returned (.tuple #[.int .i64 (kindE (a0 :: a1 :: a2 :: a3 :: a4 :: a5 :: a6 :: r)).1, .int .i64 (kindE (a0 :: a1 :: a2 :: a3 :: a4 :: a5 :: a6 :: r)).2]) ∧ Below w.heap.size w w' := by
  have hK : Hid (kindE (a0 :: a1 :: a2 :: a3 :: a4 :: a5 :: a6 :: r) = if num [a0, a1, a2, a3, a4] ≠ 284575334400 then (0, 11) else if a6 = 0 then (0, 0) else if a6 = 2 ∧ 2 ≤ a5 then (1, 0) else if a6 = 128 then (2, 0) else (0, 11)) := by
    show kindE _ = _
    unfold kindE
    rw [if_neg (by simp)]
    rfl
  generalize kindE (a0 :: a1 :: a2 :: a3 :: a4 :: a5 :: a6 :: r) = KE at *
  have hb5 := hv.byte a5 (by simp)
  have hb6 := hv.byte a6 (by simp)
  have HV := hide hv
  obtain ⟨_, va, vc, rfl, _⟩ := hv
  go_enter Tryd.func43, Tryd.ntmps43
  go_wp2_with fail
  refine (Read_any HV.out).mono ?_
  rintro e w1 ⟨rfl, hR1, hb1⟩
  go_wp2_with fail
  refine (RNumber_ok hR1 5 (by simp; omega) (by decide) (by decide) (by simp)).mono ?_
  rintro e w2 ⟨rfl, hR2, hb2⟩
  rw [show (a0 :: a1 :: a2 :: a3 :: a4 :: a5 :: a6 :: r).take 5 = [a0, a1, a2, a3, a4] from rfl]
  replace hR2 : Rd w2 w.heap.size (a5 :: a6 :: r) 0 := hR2
  have hW2 := hide (hb1.trans hb2)
  clear hb1 hb2 hR1
  generalize num [a0, a1, a2, a3, a4] = M at *
  go_wp2_with fail
  have hN3 := RNumber_ok hR2 1 (by simp; omega) (by decide) (by decide) (by simp)
  rw [show (a5 :: a6 :: r).take 1 = [a5] from rfl, num1] at hN3
  refine hN3.mono ?_
  rintro e w3 ⟨rfl, hR3, hb3⟩
  replace hR3 : Rd w3 w.heap.size (a6 :: r) 0 := hR3
  have hW3 := hide (hW2.out.trans hb3)
  clear hb3 hR2 hN3 hW2
  go_wp2_with fail
  have hN4 := RNumber_ok hR3 1 (by simp; omega) (by decide) (by decide) (by simp)
  rw [show (a6 :: r).take 1 = [a6] from rfl, num1] at hN4
  refine hN4.mono ?_
  rintro e w4 ⟨rfl, hR4, hb4⟩
  have hW4 := hide (hW3.out.trans hb4)
  clear hb4 hR3 hN4 hW3
  go_wp2_with fail
  refine (Err_any hR4).mono ?_
  rintro e w5 ⟨rfl, rfl⟩
  by_cases hM : M = 284575334400
  · have hM' : (M != 284575334400) = false := by simpa using hM
    by_cases h0 : a6 = 0
    · go_wp2
      go_ret2
      exact ⟨ret2 (by rw [hK.out, if_neg (by simpa using hM), if_pos h0]; rfl) (by rw [hK.out, if_neg (by simpa using hM), if_pos h0]; rfl), hW4.out⟩
    · have h0' : (a6 == 0) = false := by simpa using h0
      by_cases h2 : a6 = 2
      · by_cases h5 : 2 ≤ a5
        · go_wp2
          go_ret2
          exact ⟨ret2 (by rw [hK.out, if_neg (by simpa using hM), if_neg h0, if_pos ⟨h2, h5⟩]; rfl) (by rw [hK.out, if_neg (by simpa using hM), if_neg h0, if_pos ⟨h2, h5⟩]; rfl), hW4.out⟩
        · have h2' : (a6 == 2) = true := by simpa using h2
          have h8 : (a6 == 128) = false := by rw [h2]; rfl
          have H2 := hide h2
          clear h2
          go_wp2
          go_ret2
          exact ⟨ret2 (by rw [hK.out, if_neg (by simpa using hM), if_neg h0, if_neg (by omega), if_neg (by have := H2.out; omega)]; rfl) (by rw [hK.out, if_neg (by simpa using hM), if_neg h0, if_neg (by omega), if_neg (by have := H2.out; omega)]; rfl), hW4.out⟩
      · have h2' : (a6 == 2) = false := by simpa using h2
        by_cases h8 : a6 = 128
        · go_wp2
          go_ret2
          exact ⟨ret2 (by rw [hK.out, if_neg (by simpa using hM), if_neg h0, if_neg (by omega), if_pos h8]; rfl) (by rw [hK.out, if_neg (by simpa using hM), if_neg h0, if_neg (by omega), if_pos h8]; rfl), hW4.out⟩
        · have h8' : (a6 == 128) = false := by simpa using h8
          go_wp2
          go_ret2
          exact ⟨ret2 (by rw [hK.out, if_neg (by simpa using hM), if_neg h0, if_neg (by omega), if_neg h8]; rfl) (by rw [hK.out, if_neg (by simpa using hM), if_neg h0, if_neg (by omega), if_neg h8]; rfl), hW4.out⟩
  · have hM' : (M != 284575334400) = true := by simpa using hM
    go_wp2
    go_ret2
    exact ⟨ret2 (by rw [hK.out, if_pos hM]; rfl) (by rw [hK.out, if_pos hM]; rfl), hW4.out⟩
theorem readKind_short {v : Value} {w : World} {l : List Int} (hv : Bs w v l) (hl : l.length < 7) :
    Calls Tryd.prog 43 #[v] w fun e w' => e = .returned (.tuple #[.int .i64 0, .int .i64 2]) ∧ Below w.heap.size w w' := by
  have HV := hide hv
  obtain ⟨_, va, vc, rfl, _⟩ := hv
  rcases (show l.length < 5 ∨ l.length = 5 ∨ l.length = 6 from by omega) with h | h | h
  · go_enter Tryd.func43, Tryd.ntmps43
    go_wp2_with fail
    refine (Read_any HV.out).mono ?_
    rintro e w1 ⟨rfl, hR1, hb1⟩
    go_wp2_with fail
    refine (RNumber_bad hR1 5 2 (by omega) (by simp) (.inr (by omega))).mono ?_
    rintro e w2 ⟨rfl, hR2, hb2⟩
    have hW2 := hide (hb1.trans hb2)
    clear hb1 hb2 hR1
    go_wp2_with fail
    refine (RNumber_err hR2 (by decide) 1).mono ?_
    rintro e w3 ⟨rfl, rfl⟩
    go_wp2_with fail
    refine (RNumber_err hR2 (by decide) 1).mono ?_
    rintro e w4 ⟨rfl, rfl⟩
    go_wp2_with fail
    refine (Err_any hR2).mono ?_
    rintro e w5 ⟨rfl, rfl⟩
    go_wp2_with fail
    refine (Err_any hR2).mono ?_
    rintro e w6 ⟨rfl, rfl⟩
    go_wp2
    go_ret2
    exact ⟨rfl, hW2.out⟩
  · have HL := hide h
    clear h
    go_enter Tryd.func43, Tryd.ntmps43
    go_wp2_with fail
    refine (Read_any HV.out).mono ?_
    rintro e w1 ⟨rfl, hR1, hb1⟩
    go_wp2_with fail
    refine (RNumber_ok hR1 5 (by rw [HL.out]; omega) (by decide) (by decide) (by rw [HL.out]; decide)).mono ?_
    rintro e w2 ⟨rfl, hR2, hb2⟩
    have hW2 := hide (hb1.trans hb2)
    have hl2 : (l.drop 5).length = 0 := by simp [HL.out]
    have HL2 := hide hl2
    clear hb1 hb2 hR1 hl2
    generalize l.drop 5 = l2 at *
    generalize num (l.take 5) = M at *
    go_wp2_with fail
    refine (RNumber_bad hR2 1 2 (by rw [HL2.out]; omega) (by simp) (.inr (by rw [HL2.out]; decide))).mono ?_
    rintro e w3 ⟨rfl, hR3, hb3⟩
    have hW3 := hide (hW2.out.trans hb3)
    clear hb3 hR2 hW2
    go_wp2_with fail
    refine (RNumber_err hR3 (by decide) 1).mono ?_
    rintro e w4 ⟨rfl, rfl⟩
    go_wp2_with fail
    refine (Err_any hR3).mono ?_
    rintro e w5 ⟨rfl, rfl⟩
    go_wp2_with fail
    refine (Err_any hR3).mono ?_
    rintro e w6 ⟨rfl, rfl⟩
    go_wp2
    go_ret2
    exact ⟨rfl, hW3.out⟩
  · have HL := hide h
    clear h
    go_enter Tryd.func43, Tryd.ntmps43
    go_wp2_with fail
    refine (Read_any HV.out).mono ?_
    rintro e w1 ⟨rfl, hR1, hb1⟩
    go_wp2_with fail
    refine (RNumber_ok hR1 5 (by rw [HL.out]; omega) (by decide) (by decide) (by rw [HL.out]; decide)).mono ?_
    rintro e w2 ⟨rfl, hR2, hb2⟩
    have hW2 := hide (hb1.trans hb2)
    have hl2 : (l.drop 5).length = 1 := by simp [HL.out]
    have HL2 := hide hl2
    clear hb1 hb2 hR1 hl2
    generalize l.drop 5 = l2 at *
    generalize num (l.take 5) = M at *
    go_wp2_with fail
    refine (RNumber_ok hR2 1 (by rw [HL2.out]; omega) (by decide) (by decide) (by rw [HL2.out]; decide)).mono ?_
    rintro e w3 ⟨rfl, hR3, hb3⟩
    have hW3 := hide (hW2.out.trans hb3)
    have hl3 : (l2.drop 1).length = 0 := by simp [HL2.out]
    have HL3 := hide hl3
    clear hb3 hR2 hW2 hl3
    generalize l2.drop 1 = l3 at *
    generalize num (l2.take 1) = M2 at *
    go_wp2_with fail
    refine (RNumber_bad hR3 1 2 (by rw [HL3.out]; omega) (by simp) (.inr (by rw [HL3.out]; decide))).mono ?_
    rintro e w4 ⟨rfl, hR4, hb4⟩
    have hW4 := hide (hW3.out.trans hb4)
    clear hb4 hR3 hW3
    go_wp2_with fail
    refine (Err_any hR4).mono ?_
    rintro e w5 ⟨rfl, rfl⟩
    go_wp2_with fail
    refine (Err_any hR4).mono ?_
    rintro e w6 ⟨rfl, rfl⟩
    go_wp2
    go_ret2
    exact ⟨rfl, hW4.out⟩
theorem readKind_any {v : Value} {w : World} {l : List Int} (hv : Bs w v l) (hm : l.length ≤ 1000000) :
    Calls Tryd.prog 43 #[v] w fun e w' => e = .returned (.tuple #[.int .i64 (kindE l).1, .int .i64 (kindE l).2]) ∧ Below w.heap.size w w' := by
  by_cases h : l.length < 7
  · rw [show kindE l = (0, 2) from if_pos h]; exact readKind_short hv h
  · obtain ⟨a0, l0, rfl, h0⟩ := uncons (l := l) (n := 6) (by omega)
    obtain ⟨a1, l1, rfl, h1⟩ := uncons h0
    obtain ⟨a2, l2, rfl, h2⟩ := uncons h1
    obtain ⟨a3, l3, rfl, h3⟩ := uncons h2
    obtain ⟨a4, l4, rfl, h4⟩ := uncons h3
    obtain ⟨a5, l5, rfl, h5⟩ := uncons h4
    obtain ⟨a6, r, rfl, _⟩ := uncons h5
    exact readKind_long a0 a1 a2 a3 a4 a5 a6 r hv (by simp at hm; omega)
end Go.Proofs.YtmakaadmjgakaaaDoor
