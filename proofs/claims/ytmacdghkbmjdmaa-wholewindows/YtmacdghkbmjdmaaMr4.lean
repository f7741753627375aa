/-
  The head of layer 15's statements; a meter of the statement's own ('Om'). Conditions: those that each theorem names.
-/
import Derived.Test.YtmacdghkbmjdmaaMr3
import Derived.DeepKeys
namespace Go.Proofs.Ytmacdghkbmjdmaa
open Go.RowKit
set_option linter.unusedVariables false
set_option maxRecDepth 20000

theorem wfI (n : Int) (h : -9223372036854775808 ≤ n ∧ n ≤ 9223372036854775807) : (Lit.int .i64 n).wf = true := by simp [Lit.wf, IntKind.min, IntKind.max, IntKind.signed, IntKind.bits]; omega
theorem cells_int : Try.prog.cellsOf 3 = 1 := by kernel_rfl
theorem cells_three : Try.prog.cellsOf 33 = 3 := by kernel_rfl
theorem int_lits (d : Nat) (n : Int) (h : -9223372036854775808 ≤ n ∧ n ≤ 9223372036854775807) : Try.prog.keyLits (d + 1) 3 [.int .i64 n] = some [.int .i64 n] := by
  simp [Program.keyLits, Try.underlying3, wfI n h]
theorem three_lits (d : Nat) (a b c : Int) (ha : -9223372036854775808 ≤ a ∧ a ≤ 9223372036854775807) (hb : -9223372036854775808 ≤ b ∧ b ≤ 9223372036854775807) (hc : -9223372036854775808 ≤ c ∧ c ≤ 9223372036854775807) : Try.prog.keyLits (d + 2) 33 [.int .i64 a, .int .i64 b, .int .i64 c] = some [.int .i64 a, .int .i64 b, .int .i64 c] := by
  have h1 := int_lits d _ ha
  have h2 := int_lits d _ hb
  have h3 := int_lits d _ hc
  unfold Program.keyLits
  rw [Try.underlying33]
  simp [cells_three, cells_int, List.range_succ, h1, h2, h3]
/-- Three numbers that are the same, are the same. -/
theorem three_eql (a b c : Int) (ha : -9223372036854775808 ≤ a ∧ a ≤ 9223372036854775807) (hb : -9223372036854775808 ≤ b ∧ b ≤ 9223372036854775807) (hc : -9223372036854775808 ≤ c ∧ c ≤ 9223372036854775807) (w : World) :
    (binOp .eql 33 (.agg #[.int .i64 a, .int .i64 b, .int .i64 c]) (.agg #[.int .i64 a, .int .i64 b, .int .i64 c])).run Try.prog w = .ok (.bool true) w := by
  obtain ⟨r, h1, h2⟩ := run_equalIn_deep (P := Try.prog) 9998 2 33 (by kernel_rfl) w 2 2 (.agg #[.int .i64 a, .int .i64 b, .int .i64 c]) (.agg #[.int .i64 a, .int .i64 b, .int .i64 c]) _ _ (by kernel_rfl) (by kernel_rfl) (three_lits 0 a b c ha hb hc) (three_lits 0 a b c ha hb hc)
  have hr : r = true := h2.2 rfl
  rw [run_eql_struct]
  rw [show (Op.equalIn 10000 33 (.agg #[.int .i64 a, .int .i64 b, .int .i64 c]) (.agg #[.int .i64 a, .int .i64 b, .int .i64 c])).run Try.prog w = .ok r w from h1, hr]
  rfl
/-- A meter that the call made itself; what was there ahead of the call is as it was. -/
structure Om (W w : World) (t : Nat) (M : Mm) (K : Int) : Prop where
  at_ : MAt w t M
  ok : M.ok K
  new : W.heap.size ≤ t
  bel : Below W.heap.size W w
theorem Om.drew {W w : World} {t : Nat} {M : Mm} {K : Int} (h : Om W w t M K) : Om W w.drew t M K := ⟨h.at_.below (below_drewN (Below.refl _ _) 1), h.ok, h.new, below_drewN h.bel 1⟩
theorem Om.ch {W w w' : World} {t : Nat} {M M' : Mm} {K K' : Int} (h : Om W w t M K) (hm : MAt w' t M') (ho : M'.ok K') (hc : Ch (· = t) w w') : Om W w' t M' K' :=
  ⟨hm, ho, h.new, hc.below h.bel h.bel.size (fun k e => by rw [e]; exact h.new)⟩
theorem Om.later {W w w' : World} {t : Nat} {M : Mm} {K : Int} (h : Om W w t M K) (hb : Below w.heap.size w w') : Om W w' t M K := ⟨h.at_.below hb, h.ok, h.new, h.bel.later hb⟩
theorem ONew (c : Mc) (h : c.may = true) (W w : World) (hb : Below W.heap.size W w) :
    Calls Try.prog 14 #[.agg (fC c).toArray] w fun e w' => ∃ t, e = .returned (.tuple #[.pointer (some ⟨t, 0, none⟩), .int .i64 0]) ∧ Om W w' t (newM c) 0 := by
  refine (New_ok c h w).mono ?_
  rintro e w' ⟨t, rfl, h1, h2, h3⟩
  exact ⟨t, rfl, h1, newM_ok h, Nat.le_trans hb.size h2, hb.later h3⟩
theorem OMark {W w : World} {t : Nat} {M : Mm} {K : Int} (h : Om W w t M K) (hK : K < 9223372036854775807) (n now : Int) (hn : now ≤ 9223372036854775807) :
    Calls Try.prog 18 #[.pointer (some ⟨t, 0, none⟩), .int .i64 n, .int .i64 now] w fun e w' => e = .returned (.int .i64 (markC M n now)) ∧ Om W w' t (markM M n now) (K + 1) := by
  refine (Mark_any h.at_ h.ok hK n now hn).mono ?_
  rintro e w' ⟨rfl, h1, h2⟩
  exact ⟨rfl, h.ch h1 (markM_ok h.ok n now) h2⟩
theorem OLevel {W w : World} {t : Nat} {M : Mm} {K : Int} (h : Om W w t M K) (now : Int) (hn : now ≤ 9223372036854775807) :
    Calls Try.prog 19 #[.pointer (some ⟨t, 0, none⟩), .int .i64 now] w fun e w' => e = .returned (.tuple #[.int .i64 ((passM M now).l0 / 8000000000), .int .i64 ((passM M now).l1 / 8000000000)]) ∧ Om W w' t (passM M now) K := by
  refine (Level_any h.at_ h.ok now hn).mono ?_
  rintro e w' ⟨rfl, h1, h2⟩
  exact ⟨rfl, h.ch h1 (passM_ok h.ok now) h2⟩
theorem OCounts {W w : World} {t : Nat} {M : Mm} {K : Int} (h : Om W w t M K) :
    Calls Try.prog 20 #[.pointer (some ⟨t, 0, none⟩)] w fun e w' => e = .returned (.agg #[.int .i64 M.c0, .int .i64 M.c1, .int .i64 M.c2]) ∧ Om W w' t M K := by
  refine (Counts_any h.at_).mono ?_
  rintro e w' ⟨rfl, h1⟩
  exact ⟨rfl, h.later h1⟩
theorem marks_any (w : World) : Calls Try.prog 13 #[] w fun e w' => e = .returned (.bool true) ∧ Below w.heap.size w w' := by
  have hN := hide (ONew ⟨8000, 150, 0, 100⟩ (by decide +kernel) w w (Below.refl _ _))
  have hC := hide (fun w => Check_any ⟨-1, 0, 0, 0⟩ w)
  simp only [show (Mc.mk (-1) 0 0 0).may = false by decide +kernel, Bool.false_eq_true, if_false] at hC
  generalize h0 : newM ⟨8000, 150, 0, 100⟩ = M0 at *
  go_enter Try.func13, Try.ntmps13
  go_wp2_with fail
  refine hN.out.mono ?_
  rintro e w1 ⟨t, rfl, H1⟩
  have hM1 := hide (OMark H1 (by decide) 100 0 (by decide))
  rw [show markC M0 100 0 = 0 by rw [← h0]; decide +kernel] at hM1
  clear hN H1
  generalize h1 : markM M0 100 0 = M1 at *
  replace h0 := hide h0
  go_wp2_with fail
  refine hM1.out.mono ?_
  rintro e w2 ⟨rfl, H2⟩
  have hM2 := hide (OMark H2 (by decide) 100 0 (by decide))
  rw [show markC M1 100 0 = 1 by rw [← h1, ← h0.out]; decide +kernel] at hM2
  clear hM1 H2
  generalize h2 : markM M1 100 0 = M2 at *
  replace h1 := hide h1
  go_wp2_with fail
  refine hM2.out.mono ?_
  rintro e w3 ⟨rfl, H3⟩
  have hM3 := hide (OMark H3 (by decide) 100 0 (by decide))
  rw [show markC M2 100 0 = 2 by rw [← h2, ← h1.out, ← h0.out]; decide +kernel] at hM3
  clear hM2 H3
  generalize h3 : markM M2 100 0 = M3 at *
  replace h2 := hide h2
  go_wp2_with fail
  refine hM3.out.mono ?_
  rintro e w4 ⟨rfl, H4⟩
  have hL := hide (OLevel H4 50000000 (by decide))
  rw [show (passM M3 50000000).l0 / 8000000000 = 100 by rw [← h3, ← h2.out, ← h1.out, ← h0.out]; decide +kernel, show (passM M3 50000000).l1 / 8000000000 = 0 by rw [← h3, ← h2.out, ← h1.out, ← h0.out]; decide +kernel] at hL
  clear hM3 H4
  generalize h4 : passM M3 50000000 = M4 at *
  replace h3 := hide h3
  go_wp2_with fail
  refine hL.out.mono ?_
  rintro e w5 ⟨rfl, H5⟩
  have hCo := hide (OCounts H5)
  have e0 : M4.c0 = 1 ∧ M4.c1 = 1 ∧ M4.c2 = 1 := by rw [← h4, ← h3.out, ← h2.out, ← h1.out, ← h0.out]; decide +kernel
  rw [e0.1, e0.2.1, e0.2.2] at hCo
  clear hL H5 h4 h3 h2 h1 h0 e0
  have hq := three_eql 1 1 1 (by decide) (by decide) (by decide)
  go_wp2_with fail
  refine hCo.out.mono ?_
  rintro e w6 ⟨rfl, H6⟩
  replace H6 := hide H6.bel
  clear hCo
  go_wp2_with fail
  refine (hC.out _).mono ?_
  rintro e w7 ⟨rfl, hb7⟩
  have hB := hide (H6.out.later hb7)
  clear hC H6 hb7
  go_wp2
  go_ret
  exact ⟨rfl, hB.out⟩
theorem may_iff (c : Mc) : c.may = true ↔ (0 ≤ c.r ∧ c.r ≤ 10000000000) ∧ (0 ≤ c.e ∧ c.e ≤ 10000000000) ∧ (0 ≤ c.b ∧ c.b ≤ 1048576) ∧ (0 ≤ c.s ∧ c.s ≤ 1048576) := by
  simp only [Mc.may, Bool.and_eq_true, mayB_iff]
  omega
set_option maxHeartbeats 2000000 in
theorem Checks_walk (c : Mc) (w : World) : Calls Try.prog 5 #[.agg (fC c).toArray] w fun e w' => e = .returned (.bool true) ∧ Below w.heap.size w w' := by
  have hr := hide (heap_alloc_new w (.cells (fC c).toArray 23))
  have hb := hide (below1 w (.cells (fC c).toArray 23))
  have hc := hide (fun w => Check_any c w)
  have hz := cfgSize c
  have hI := hide (may_iff c)
  generalize c.may = x at *
  obtain ⟨r, b, e, s⟩ := c
  simp only [fC] at hr hb hc hI ⊢
  go_enter Try.func5, Try.ntmps5
  go_wp2_with fail
  refine (marks_any _).mono ?_
  rintro e1 w2 ⟨rfl, hb2⟩
  have hr2 := hide (heap_kept hb2 hr.out)
  have hB2 := hide (hb.out.later hb2)
  have c0 : w2.cell? ⟨w.heap.size, 0, none⟩ = some (.int .i64 r) := (cell_of_row _ _ _ _ _ _ hr2.out).trans rfl
  have c1 : w2.cell? ⟨w.heap.size, 1, none⟩ = some (.int .i64 b) := (cell_of_row _ _ _ _ _ _ hr2.out).trans rfl
  have c2 : w2.cell? ⟨w.heap.size, 2, none⟩ = some (.int .i64 e) := (cell_of_row _ _ _ _ _ _ hr2.out).trans rfl
  have c3 : w2.cell? ⟨w.heap.size, 3, none⟩ = some (.int .i64 s) := (cell_of_row _ _ _ _ _ _ hr2.out).trans rfl
  clear hr hb hb2
  by_cases h0 : 0 ≤ r
  · by_cases h1 : r ≤ 10000000000
    · by_cases h2 : 0 ≤ e
      · by_cases h3 : e ≤ 10000000000
        · by_cases h4 : 0 ≤ b
          · by_cases h5 : b ≤ 1048576
            · by_cases h6 : 0 ≤ s
              · by_cases h7 : s ≤ 1048576
                · obtain rfl : x = true := hI.out.2 ⟨⟨h0, h1⟩, ⟨h2, h3⟩, ⟨h4, h5⟩, ⟨h6, h7⟩⟩
                  simp only [if_true] at hc
                  clear hI
                  go_wp2_with ((with_reducible change wpList _ _ _ _ _ _); refine wpList_load_row rfl 23 (.tmp 1) rfl w.heap.size rfl 23 _ _ _ hr2.out Try.underlying23 rfl hz ?_)
                  refine (hc.out _).mono ?_
                  rintro e1 w3 ⟨rfl, hb3⟩
                  have hB3 := hide (hB2.out.later hb3)
                  clear c0 c1 c2 c3 hr2 hB2 hb3 hc
                  go_wp2
                  go_ret
                  exact ⟨rfl, hB3.out⟩
                · obtain rfl : x = false := by rw [Bool.eq_false_iff]; intro hx; have := hI.out.1 hx; omega
                  simp only [Bool.false_eq_true, if_false] at hc
                  clear hI
                  have hd : decide (s ≤ 1048576) = false := decide_eq_false h7
                  go_wp2_with ((with_reducible change wpList _ _ _ _ _ _); refine wpList_load_row rfl 23 (.tmp 1) rfl w.heap.size rfl 23 _ _ _ hr2.out Try.underlying23 rfl hz ?_)
                  refine (hc.out _).mono ?_
                  rintro e1 w3 ⟨rfl, hb3⟩
                  have hr3 := hide (heap_kept hb3 hr2.out)
                  have hB3 := hide (hB2.out.later hb3)
                  clear c0 c1 c2 c3 hr2 hB2 hb3
                  go_wp2_with ((with_reducible change wpList _ _ _ _ _ _); refine wpList_load_row_on rfl 23 (.tmp 1) rfl w.heap.size rfl 23 _ _ _ hr3.out Try.underlying23 rfl hz ?_)
                  refine (hc.out _).mono ?_
                  rintro e1 w4 ⟨rfl, hb4⟩
                  have hB4 := hide (hB3.out.later hb4)
                  clear hr3 hb4 hB3 hc
                  go_wp2
                  go_ret
                  exact ⟨rfl, hB4.out⟩
              · obtain rfl : x = false := by rw [Bool.eq_false_iff]; intro hx; have := hI.out.1 hx; omega
                simp only [Bool.false_eq_true, if_false] at hc
                clear hI
                go_wp2_with ((with_reducible change wpList _ _ _ _ _ _); refine wpList_load_row rfl 23 (.tmp 1) rfl w.heap.size rfl 23 _ _ _ hr2.out Try.underlying23 rfl hz ?_)
                refine (hc.out _).mono ?_
                rintro e1 w3 ⟨rfl, hb3⟩
                have hr3 := hide (heap_kept hb3 hr2.out)
                have hB3 := hide (hB2.out.later hb3)
                clear c0 c1 c2 c3 hr2 hB2 hb3
                go_wp2_with ((with_reducible change wpList _ _ _ _ _ _); refine wpList_load_row_on rfl 23 (.tmp 1) rfl w.heap.size rfl 23 _ _ _ hr3.out Try.underlying23 rfl hz ?_)
                refine (hc.out _).mono ?_
                rintro e1 w4 ⟨rfl, hb4⟩
                have hB4 := hide (hB3.out.later hb4)
                clear hr3 hb4 hB3 hc
                go_wp2
                go_ret
                exact ⟨rfl, hB4.out⟩
            · obtain rfl : x = false := by rw [Bool.eq_false_iff]; intro hx; have := hI.out.1 hx; omega
              simp only [Bool.false_eq_true, if_false] at hc
              clear hI
              go_wp2_with ((with_reducible change wpList _ _ _ _ _ _); refine wpList_load_row rfl 23 (.tmp 1) rfl w.heap.size rfl 23 _ _ _ hr2.out Try.underlying23 rfl hz ?_)
              refine (hc.out _).mono ?_
              rintro e1 w3 ⟨rfl, hb3⟩
              have hr3 := hide (heap_kept hb3 hr2.out)
              have hB3 := hide (hB2.out.later hb3)
              clear c0 c1 c2 c3 hr2 hB2 hb3
              go_wp2_with ((with_reducible change wpList _ _ _ _ _ _); refine wpList_load_row_on rfl 23 (.tmp 1) rfl w.heap.size rfl 23 _ _ _ hr3.out Try.underlying23 rfl hz ?_)
              refine (hc.out _).mono ?_
              rintro e1 w4 ⟨rfl, hb4⟩
              have hB4 := hide (hB3.out.later hb4)
              clear hr3 hb4 hB3 hc
              go_wp2
              go_ret
              exact ⟨rfl, hB4.out⟩
          · obtain rfl : x = false := by rw [Bool.eq_false_iff]; intro hx; have := hI.out.1 hx; omega
            simp only [Bool.false_eq_true, if_false] at hc
            clear hI
            go_wp2_with ((with_reducible change wpList _ _ _ _ _ _); refine wpList_load_row rfl 23 (.tmp 1) rfl w.heap.size rfl 23 _ _ _ hr2.out Try.underlying23 rfl hz ?_)
            refine (hc.out _).mono ?_
            rintro e1 w3 ⟨rfl, hb3⟩
            have hr3 := hide (heap_kept hb3 hr2.out)
            have hB3 := hide (hB2.out.later hb3)
            clear c0 c1 c2 c3 hr2 hB2 hb3
            go_wp2_with ((with_reducible change wpList _ _ _ _ _ _); refine wpList_load_row_on rfl 23 (.tmp 1) rfl w.heap.size rfl 23 _ _ _ hr3.out Try.underlying23 rfl hz ?_)
            refine (hc.out _).mono ?_
            rintro e1 w4 ⟨rfl, hb4⟩
            have hB4 := hide (hB3.out.later hb4)
            clear hr3 hb4 hB3 hc
            go_wp2
            go_ret
            exact ⟨rfl, hB4.out⟩
        · obtain rfl : x = false := by rw [Bool.eq_false_iff]; intro hx; have := hI.out.1 hx; omega
          simp only [Bool.false_eq_true, if_false] at hc
          clear hI
          go_wp2_with ((with_reducible change wpList _ _ _ _ _ _); refine wpList_load_row rfl 23 (.tmp 1) rfl w.heap.size rfl 23 _ _ _ hr2.out Try.underlying23 rfl hz ?_)
          refine (hc.out _).mono ?_
          rintro e1 w3 ⟨rfl, hb3⟩
          have hr3 := hide (heap_kept hb3 hr2.out)
          have hB3 := hide (hB2.out.later hb3)
          clear c0 c1 c2 c3 hr2 hB2 hb3
          go_wp2_with ((with_reducible change wpList _ _ _ _ _ _); refine wpList_load_row_on rfl 23 (.tmp 1) rfl w.heap.size rfl 23 _ _ _ hr3.out Try.underlying23 rfl hz ?_)
          refine (hc.out _).mono ?_
          rintro e1 w4 ⟨rfl, hb4⟩
          have hB4 := hide (hB3.out.later hb4)
          clear hr3 hb4 hB3 hc
          go_wp2
          go_ret
          exact ⟨rfl, hB4.out⟩
      · obtain rfl : x = false := by rw [Bool.eq_false_iff]; intro hx; have := hI.out.1 hx; omega
        simp only [Bool.false_eq_true, if_false] at hc
        clear hI
        go_wp2_with ((with_reducible change wpList _ _ _ _ _ _); refine wpList_load_row rfl 23 (.tmp 1) rfl w.heap.size rfl 23 _ _ _ hr2.out Try.underlying23 rfl hz ?_)
        refine (hc.out _).mono ?_
        rintro e1 w3 ⟨rfl, hb3⟩
        have hr3 := hide (heap_kept hb3 hr2.out)
        have hB3 := hide (hB2.out.later hb3)
        clear c0 c1 c2 c3 hr2 hB2 hb3
        go_wp2_with ((with_reducible change wpList _ _ _ _ _ _); refine wpList_load_row_on rfl 23 (.tmp 1) rfl w.heap.size rfl 23 _ _ _ hr3.out Try.underlying23 rfl hz ?_)
        refine (hc.out _).mono ?_
        rintro e1 w4 ⟨rfl, hb4⟩
        have hB4 := hide (hB3.out.later hb4)
        clear hr3 hb4 hB3 hc
        go_wp2
        go_ret
        exact ⟨rfl, hB4.out⟩
    · obtain rfl : x = false := by rw [Bool.eq_false_iff]; intro hx; have := hI.out.1 hx; omega
      simp only [Bool.false_eq_true, if_false] at hc
      clear hI
      go_wp2_with ((with_reducible change wpList _ _ _ _ _ _); refine wpList_load_row rfl 23 (.tmp 1) rfl w.heap.size rfl 23 _ _ _ hr2.out Try.underlying23 rfl hz ?_)
      refine (hc.out _).mono ?_
      rintro e1 w3 ⟨rfl, hb3⟩
      have hr3 := hide (heap_kept hb3 hr2.out)
      have hB3 := hide (hB2.out.later hb3)
      clear c0 c1 c2 c3 hr2 hB2 hb3
      go_wp2_with ((with_reducible change wpList _ _ _ _ _ _); refine wpList_load_row_on rfl 23 (.tmp 1) rfl w.heap.size rfl 23 _ _ _ hr3.out Try.underlying23 rfl hz ?_)
      refine (hc.out _).mono ?_
      rintro e1 w4 ⟨rfl, hb4⟩
      have hB4 := hide (hB3.out.later hb4)
      clear hr3 hb4 hB3 hc
      go_wp2
      go_ret
      exact ⟨rfl, hB4.out⟩
  · obtain rfl : x = false := by rw [Bool.eq_false_iff]; intro hx; have := hI.out.1 hx; omega
    simp only [Bool.false_eq_true, if_false] at hc
    clear hI
    go_wp2_with ((with_reducible change wpList _ _ _ _ _ _); refine wpList_load_row rfl 23 (.tmp 1) rfl w.heap.size rfl 23 _ _ _ hr2.out Try.underlying23 rfl hz ?_)
    refine (hc.out _).mono ?_
    rintro e1 w3 ⟨rfl, hb3⟩
    have hr3 := hide (heap_kept hb3 hr2.out)
    have hB3 := hide (hB2.out.later hb3)
    clear c0 c1 c2 c3 hr2 hB2 hb3
    go_wp2_with ((with_reducible change wpList _ _ _ _ _ _); refine wpList_load_row_on rfl 23 (.tmp 1) rfl w.heap.size rfl 23 _ _ _ hr3.out Try.underlying23 rfl hz ?_)
    refine (hc.out _).mono ?_
    rintro e1 w4 ⟨rfl, hb4⟩
    have hB4 := hide (hB3.out.later hb4)
    clear hr3 hb4 hB3 hc
    go_wp2
    go_ret
    exact ⟨rfl, hB4.out⟩
end Go.Proofs.Ytmacdghkbmjdmaa
