/-
  Contract of mac.Check.
-/
import Derived.Test.YtmakaadmjgakaaaDoorMac1
namespace Go.Proofs.YtmakaadmjgakaaaDoor
open Go.RowKit
theorem Check_any1 (h : Hd) (n : Int) (w : World) (hs : 0 ≤ h.s0 ∧ h.s0 ≤ 255) (h1 : n < 0) :
    Calls Tryd.prog 8 #[.agg h.row, .int .i64 n] w fun r w' => r = .returned (.int .i64 3) ∧ Below w.heap.size w w' := by
  obtain ⟨d0, d1, d2, d3, d4, d5, s0, s1, s2, s3, s4, s5, tg, pcp, de, vid, typ, llc⟩ := h
  go_enter Tryd.func8, Tryd.ntmps8
  go_wp2
  go_ret
  exact ⟨rfl, (Below.refl _ _).alloc (Nat.le_refl _) _⟩
theorem Check_any2 (h : Hd) (n : Int) (w : World) (hs : 0 ≤ h.s0 ∧ h.s0 ≤ 255) (h1 : 1500 < n) :
    Calls Tryd.prog 8 #[.agg h.row, .int .i64 n] w fun r w' => r = .returned (.int .i64 3) ∧ Below w.heap.size w w' := by
  obtain ⟨d0, d1, d2, d3, d4, d5, s0, s1, s2, s3, s4, s5, tg, pcp, de, vid, typ, llc⟩ := h
  go_enter Tryd.func8, Tryd.ntmps8
  go_wp2
  go_ret
  exact ⟨rfl, (Below.refl _ _).alloc (Nat.le_refl _) _⟩
theorem hdSize (h : Hd) : (Tryd.prog.info? 25).map (·.size) = some h.row.size := by kernel_rfl
theorem Check_any3 (h : Hd) (n : Int) (w : World) (hs : 0 ≤ h.s0 ∧ h.s0 ≤ 255) (h1 : 0 ≤ n) (h2 : n ≤ 1500) (h3 : tagFitsB h = false) :
    Calls Tryd.prog 8 #[.agg h.row, .int .i64 n] w fun r w' => r = .returned (.int .i64 1) ∧ Below w.heap.size w w' := by
  have hA := hide (tagFits_any h)
  have h4 : ¬ n < 0 := by omega
  have hk := heap_alloc_new w (.cells h.row 25)
  obtain ⟨d0, d1, d2, d3, d4, d5, s0, s1, s2, s3, s4, s5, tg, pcp, de, vid, typ, llc⟩ := h
  go_enter Tryd.func8, Tryd.ntmps8
  go_wp2_with (first | (refine wpList_load_row rfl 25 _ rfl w.heap.size rfl 25 _ _ _ hk Tryd.underlying25 rfl (hdSize _) ?_) | (go_at_call 28; refine (hA.out _).mono ?_; rintro e w1 ⟨rfl, hb1⟩))
  go_ret
  exact ⟨rfl, ((Below.refl _ _).alloc (Nat.le_refl _) _).trans (hb1.mono (by simp))⟩
theorem Check_any4 (h : Hd) (n : Int) (w : World) (hs : 0 ≤ h.s0 ∧ h.s0 ≤ 255) (h1 : 0 ≤ n) (h2 : n ≤ 1500) (h3 : tagFitsB h = true) (h5 : h.s0 % 2 = 1) :
    Calls Tryd.prog 8 #[.agg h.row, .int .i64 n] w fun r w' => r = .returned (.int .i64 4) ∧ Below w.heap.size w w' := by
  have hA := hide (tagFits_any h)
  have hB := hide (typeFits_any h n)
  have h4 : ¬ n < 0 := by omega
  have hk := heap_alloc_new w (.cells h.row 25)
  obtain ⟨d0, d1, d2, d3, d4, d5, s0, s1, s2, s3, s4, s5, tg, pcp, de, vid, typ, llc⟩ := h
  go_enter Tryd.func8, Tryd.ntmps8
  go_wp2_with (first | (refine wpList_load_row rfl 25 _ rfl w.heap.size rfl 25 _ _ _ hk Tryd.underlying25 rfl (hdSize _) ?_) | (go_at_call 28; refine (hA.out _).mono ?_; rintro e w1 ⟨rfl, hb1⟩; obtain ⟨hc1, hf1⟩ := bcell hb1; have hz1 := hb1.size; simp only [World.size_alloc] at hz1) | (go_at_call 26; refine (Group_yes _ _ _ _ _ _ _ hs h5).mono ?_; rintro e w2 ⟨rfl, hb2⟩; have hk2 := heap_kept hb2 (heap_kept hb1 hk); have hW := hide (((Below.refl _ _).alloc (Nat.le_refl _) (.cells _ 25)).trans ((hb1.mono (by simp)).trans (hb2.mono (by omega)))); clear hc1 hf1))
  go_ret
  exact ⟨rfl, hW.out⟩
theorem Check_any5 (h : Hd) (n : Int) (w : World) (hs : 0 ≤ h.s0 ∧ h.s0 ≤ 255) (h1 : 0 ≤ n) (h2 : n ≤ 1500) (h3 : tagFitsB h = true) (h5 : ¬ h.s0 % 2 = 1) (h6 : typeFitsB h n = false) :
    Calls Tryd.prog 8 #[.agg h.row, .int .i64 n] w fun r w' => r = .returned (.int .i64 4) ∧ Below w.heap.size w w' := by
  have hA := hide (tagFits_any h)
  have hB := hide (typeFits_any h n)
  have h4 : ¬ n < 0 := by omega
  have hk := heap_alloc_new w (.cells h.row 25)
  obtain ⟨d0, d1, d2, d3, d4, d5, s0, s1, s2, s3, s4, s5, tg, pcp, de, vid, typ, llc⟩ := h
  go_enter Tryd.func8, Tryd.ntmps8
  go_wp2_with (first | (refine wpList_load_row rfl 25 _ rfl w.heap.size rfl 25 _ _ _ hk Tryd.underlying25 rfl (hdSize _) ?_) | (refine wpList_load_row_on rfl 25 _ rfl w.heap.size rfl 25 _ _ _ hk2 Tryd.underlying25 rfl (hdSize _) ?_) | (go_at_call 28; refine (hA.out _).mono ?_; rintro e w1 ⟨rfl, hb1⟩; obtain ⟨hc1, hf1⟩ := bcell hb1; have hz1 := hb1.size; simp only [World.size_alloc] at hz1) | (go_at_call 26; refine (Group_no _ _ _ _ _ _ _ hs h5).mono ?_; rintro e w2 ⟨rfl, hb2⟩; have hk2 := heap_kept hb2 (heap_kept hb1 hk); have hW := hide (((Below.refl _ _).alloc (Nat.le_refl _) (.cells _ 25)).trans ((hb1.mono (by simp)).trans (hb2.mono (by omega)))); clear hc1 hf1) | (go_at_call 29; refine (hB.out _).mono ?_; rintro e w3 ⟨rfl, hb3⟩))
  go_ret
  exact ⟨rfl, hW.out.later hb3⟩
theorem Check_any6 (h : Hd) (n : Int) (w : World) (hs : 0 ≤ h.s0 ∧ h.s0 ≤ 255) (h1 : 0 ≤ n) (h2 : n ≤ 1500) (h3 : tagFitsB h = true) (h5 : ¬ h.s0 % 2 = 1) (h6 : typeFitsB h n = true) :
    Calls Tryd.prog 8 #[.agg h.row, .int .i64 n] w fun r w' => r = .returned (.int .i64 0) ∧ Below w.heap.size w w' := by
  have hA := hide (tagFits_any h)
  have hB := hide (typeFits_any h n)
  have h4 : ¬ n < 0 := by omega
  have hk := heap_alloc_new w (.cells h.row 25)
  obtain ⟨d0, d1, d2, d3, d4, d5, s0, s1, s2, s3, s4, s5, tg, pcp, de, vid, typ, llc⟩ := h
  go_enter Tryd.func8, Tryd.ntmps8
  go_wp2_with (first | (refine wpList_load_row rfl 25 _ rfl w.heap.size rfl 25 _ _ _ hk Tryd.underlying25 rfl (hdSize _) ?_) | (refine wpList_load_row_on rfl 25 _ rfl w.heap.size rfl 25 _ _ _ hk2 Tryd.underlying25 rfl (hdSize _) ?_) | (go_at_call 28; refine (hA.out _).mono ?_; rintro e w1 ⟨rfl, hb1⟩; obtain ⟨hc1, hf1⟩ := bcell hb1; have hz1 := hb1.size; simp only [World.size_alloc] at hz1) | (go_at_call 26; refine (Group_no _ _ _ _ _ _ _ hs h5).mono ?_; rintro e w2 ⟨rfl, hb2⟩; have hk2 := heap_kept hb2 (heap_kept hb1 hk); have hW := hide (((Below.refl _ _).alloc (Nat.le_refl _) (.cells _ 25)).trans ((hb1.mono (by simp)).trans (hb2.mono (by omega)))); clear hc1 hf1) | (go_at_call 29; refine (hB.out _).mono ?_; rintro e w3 ⟨rfl, hb3⟩))
  go_ret
  exact ⟨rfl, hW.out.later hb3⟩
/-- Check: which of several things is told first. -/
theorem Check_any (h : Hd) (n : Int) (w : World) (hs : 0 ≤ h.s0 ∧ h.s0 ≤ 255) :
    Calls Tryd.prog 8 #[.agg h.row, .int .i64 n] w fun r w' => r = .returned (.int .i64 (checkE h n)) ∧ Below w.heap.size w w' := by
  unfold checkE
  by_cases h1 : n < 0
  · rw [if_pos (.inl h1)]; exact Check_any1 h n w hs h1
  · by_cases h2 : 1500 < n
    · rw [if_pos (.inr h2)]; exact Check_any2 h n w hs h2
    · rw [if_neg (by omega)]
      cases h3 : tagFitsB h
      · rw [if_pos rfl]; exact Check_any3 h n w hs (by omega) (by omega) h3
      · rw [if_neg (by simp)]
        by_cases h5 : h.s0 % 2 = 1
        · rw [if_pos (.inl h5)]; exact Check_any4 h n w hs (by omega) (by omega) h3 h5
        · cases h6 : typeFitsB h n
          · rw [if_pos (.inr rfl)]; exact Check_any5 h n w hs (by omega) (by omega) h3 h5 h6
          · rw [if_neg (by simp [h5])]; exact Check_any6 h n w hs (by omega) (by omega) h3 h5 h6
end Go.Proofs.YtmakaadmjgakaaaDoor
