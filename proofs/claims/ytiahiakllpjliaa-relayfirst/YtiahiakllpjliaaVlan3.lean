/-
  Contracts of the table's Set and Classify. Conditions: those that each theorem names.
-/
import Derived.Test.YtiahiakllpjliaaVlan2
namespace Go.Proofs.Ytiahiakllpjliaa
open Go.RowKit Go.Maps
set_option linter.unusedVariables false
set_option maxRecDepth 20000

/-- May these be a VLAN's members? -/
def setB (n : Nat) (v m p : Int) : Bool := vidB v && (bits .andNot .i64 m (allN n) == 0) && (bits .andNot .i64 p m == 0)
section
variable {w : World} {g pb mb c : Nat} {ps : List Pv} {f : Int → Option (Int × Int)}
theorem Set_bad (h : Vt w g pb mb ps f c) (v m p : Int) (hE : setB ps.length v m p = false) :
    Calls Try.prog 25 #[.pointer (some ⟨g, 0, none⟩), .int .i64 v, .int .i64 m, .int .i64 p] w fun r w' => r = .returned (.int .i64 1) ∧ w' = w := by
  have hV := hide (isVid_any v w)
  have hA := hide (all_any h)
  unfold setB at hE
  clear h
  generalize allN ps.length = M at *
  generalize vidB v = b at *
  cases b
  · clear hE hA
    go_enter Try.func25, Try.ntmps25
    go_wp2_with (go_at_call 45; refine hV.out.mono ?_; rintro e w' ⟨rfl, rfl⟩)
    go_ret
    exact ⟨rfl, rfl⟩
  · rw [Bool.true_and] at hE
    by_cases h1 : bits .andNot .i64 m M = 0
    · rw [h1] at hE
      have h2 : (bits .andNot .i64 p m == 0) = false := by simpa using hE
      clear hE
      go_enter Try.func25, Try.ntmps25
      go_wp2_with (first | (go_at_call 45; refine hV.out.mono ?_; rintro e w' ⟨rfl, rfl⟩) | (go_at_call 46; refine hA.out.mono ?_; rintro e w' ⟨rfl, rfl⟩))
      go_ret
      exact ⟨rfl, rfl⟩
    · clear hE
      have h2 : (bits .andNot .i64 m M == 0) = false := by simpa using h1
      go_enter Try.func25, Try.ntmps25
      go_wp2_with (first | (go_at_call 45; refine hV.out.mono ?_; rintro e w' ⟨rfl, rfl⟩) | (go_at_call 46; refine hA.out.mono ?_; rintro e w' ⟨rfl, rfl⟩))
      go_ret
      exact ⟨rfl, rfl⟩
theorem Vt.map (h : Vt w g pb mb ps f c) {w' : World} {c' : Nat} {f' : Int → Option (Int × Int)} (hg : w.grownBy w' (some mb)) (hm : Mp Try.prog gT w' mb c' f') : Vt w' g pb mb ps f' c' :=
  ⟨h.few, by rw [hg.block g h.lt.1 (by simpa using h.ne.2.1)]; exact h.at_g, h.fl.blk (hg.block pb h.lt.2.1 (by simpa using h.ne.2.2)), hm, h.ne⟩
theorem vid_64 {v : Int} (h : vidB v = true) : I64 v := by
  simp [vidB] at h; exact ⟨by omega, by omega⟩
theorem Set_del (h : Vt w g pb mb ps f c) (v p : Int) (hE : setB ps.length v 0 p = true) :
    Calls Try.prog 25 #[.pointer (some ⟨g, 0, none⟩), .int .i64 v, .int .i64 0, .int .i64 p] w fun r w' => r = .returned (.int .i64 0) ∧ Vt w' g pb mb ps (updK f v none) (if (f v).isSome then c - 1 else c) ∧ Ch (· = mb) w w' := by
  have hV := hide (isVid_any v w)
  have hA := hide (all_any h)
  unfold setB at hE
  simp only [Bool.and_eq_true, beq_iff_eq] at hE
  obtain ⟨⟨h0, h1⟩, h2⟩ := hE
  obtain ⟨w', hr, hm, hgr⟩ := h.mp.del gT_good v (vid_64 h0) 0
  have hr' : (Builtin.delete_ #[101, 3] 0 #[.map (some mb), .int .i64 v]).run Try.prog w = .ok (.tuple #[]) w' := hr
  have hc1 := h.c1
  have hO := hide (h.map hgr hm)
  have hC := hide (Ch.of_grown hgr)
  rw [h0] at hV
  clear h hr hm hgr h0
  generalize allN ps.length = M at *
  generalize (if (f v).isSome then c - 1 else c) = c' at *
  go_enter Try.func25, Try.ntmps25
  go_wp2_with (first | (go_at_call 45; refine hV.out.mono ?_; rintro e w' ⟨rfl, rfl⟩) | (go_at_call 46; refine hA.out.mono ?_; rintro e w' ⟨rfl, rfl⟩))
  go_ret
  exact ⟨rfl, hO.out, hC.out⟩
theorem grpSize (q1 q2 : Int) : (Try.prog.info? 105).map (·.size) = some (#[Value.int .i64 q1, .int .i64 q2] : Array Value).size := by kernel_rfl
theorem Set_full (h : Vt w g pb mb ps f c) (v m p : Int) (hE : setB ps.length v m p = true) (hm : m ≠ 0) (hf : (f v).isSome = false) (hc : 64 ≤ c) (hc' : c ≤ 1000) :
    Calls Try.prog 25 #[.pointer (some ⟨g, 0, none⟩), .int .i64 v, .int .i64 m, .int .i64 p] w fun r w' => r = .returned (.int .i64 20) ∧ Below w.heap.size w w' := by
  have hV := hide (isVid_any v w)
  have hA := hide (all_any h)
  unfold setB at hE
  simp only [Bool.and_eq_true, beq_iff_eq] at hE
  obtain ⟨⟨h0, h1⟩, h2⟩ := hE
  have hL : (Instr.lookup 101 (.map (some mb)) (.int .i64 v) true).run Try.prog w = .ok (.tuple #[twoV ((f v).getD (0, 0)), .bool (f v).isSome]) w := h.mp.lookok gT_good v (vid_64 h0)
  have hH := hide h
  have hc1 := h.c1
  rw [hf] at hL
  rw [h0] at hV
  have hm' : (m == 0) = false := beq_eq_false_iff_ne.2 hm
  clear h h0
  generalize allN ps.length = M at *
  generalize (f v).getD (0, 0) = q at *
  obtain ⟨q1, q2⟩ := q
  dsimp only [twoV] at hL
  go_enter Try.func25, Try.ntmps25
  go_wp2_with (first | (go_at_call 45; refine hV.out.mono ?_; rintro e w' ⟨rfl, rfl⟩) | (go_at_call 46; refine hA.out.mono ?_; rintro e w' ⟨rfl, rfl⟩) | ((with_reducible change wpList _ _ _ _ _ _); refine stop_storeB 105 (.tmp 9) (.tmp 41) rfl ?_))
  refine hide (wpList_store_fresh rfl 105 (.tmp 9) (.tmp 41) rfl #[.int .i64 q1, .int .i64 q2] #[.int .i64 0, .int .i64 0] rfl rfl 105 (grpSize _ _) rfl (by simp [Value.oneCell']) ?_)
  intro w3 h3 hb3
  have hc1 := (hH.out.below hb3).c1
  have hN : (Builtin.len_ #[101] 3 #[.map (some mb)]).run Try.prog w3 = .ok (.int .i64 c) w3 := (hH.out.below hb3).mp.len gT_good _
  clear hH hL hA hV
  go_wp2
  go_ret
  exact ⟨rfl, hb3⟩
theorem Set_ok (h : Vt w g pb mb ps f c) (v m p : Int) (hE : setB ps.length v m p = true) (hm : m ≠ 0) (hf : (f v).isSome = true ∨ c < 64) (hc' : c ≤ 1000) :
    Calls Try.prog 25 #[.pointer (some ⟨g, 0, none⟩), .int .i64 v, .int .i64 m, .int .i64 p] w fun r w' => r = .returned (.int .i64 0) ∧ Vt w' g pb mb ps (updK f v (some (m, p))) (if (f v).isSome then c else c + 1) ∧ Ch (· = mb) w w' := by
  have hV := hide (isVid_any v w)
  have hA := hide (all_any h)
  unfold setB at hE
  simp only [Bool.and_eq_true, beq_iff_eq] at hE
  obtain ⟨⟨h0, h1⟩, h2⟩ := hE
  have hL : (Instr.lookup 101 (.map (some mb)) (.int .i64 v) true).run Try.prog w = .ok (.tuple #[twoV ((f v).getD (0, 0)), .bool (f v).isSome]) w := h.mp.lookok gT_good v (vid_64 h0)
  have hP : Hid (∀ w3, Below w.heap.size w w3 → ∃ w', (Instr.mapUpdate 101 (.map (some mb)) (.int .i64 v) (.agg #[.int .i64 m, .int .i64 p])).run Try.prog w3 = .ok () w' ∧ Vt w' g pb mb ps (updK f v (some (m, p))) (if (f v).isSome then c else c + 1) ∧ Ch (· = mb) w w') := by
    intro w3 hb3
    have h3 := h.below hb3
    obtain ⟨w', r1, r2, r3⟩ := h3.mp.put gT_good v (vid_64 h0) (m, p) trivial (by simp [maxLen]; omega)
    exact ⟨w', r1, h3.map r3 r2, (Ch.of_below hb3).trans (Ch.of_grown r3)⟩
  have hH := hide h
  have hc1 := h.c1
  rw [h0] at hV
  have hm' : (m == 0) = false := beq_eq_false_iff_ne.2 hm
  clear h h0
  generalize allN ps.length = M at *
  generalize (f v).getD (0, 0) = q at *
  obtain ⟨q1, q2⟩ := q
  dsimp only [twoV] at hL
  generalize (if (f v).isSome then c else c + 1) = c' at *
  generalize (f v).isSome = fv at *
  go_enter Try.func25, Try.ntmps25
  go_wp2_with (first | (go_at_call 45; refine hV.out.mono ?_; rintro e w' ⟨rfl, rfl⟩) | (go_at_call 46; refine hA.out.mono ?_; rintro e w' ⟨rfl, rfl⟩) | ((with_reducible change wpList _ _ _ _ _ _); refine stop_storeB 105 (.tmp 9) (.tmp 41) rfl ?_))
  refine hide (wpList_store_fresh rfl 105 (.tmp 9) (.tmp 41) rfl #[.int .i64 q1, .int .i64 q2] #[.int .i64 0, .int .i64 0] rfl rfl 105 (grpSize _ _) rfl (by simp [Value.oneCell']) ?_)
  intro w3 h3 hb3
  have hc1 := (hH.out.below hb3).c1
  have hN : (Builtin.len_ #[101] 3 #[.map (some mb)]).run Try.prog w3 = .ok (.int .i64 c) w3 := (hH.out.below hb3).mp.len gT_good _
  obtain ⟨w4, hU, hO, hC⟩ := hP.out w3 hb3
  replace hO := hide hO
  replace hC := hide hC
  clear hH hL hA hV hP hb3 h3
  cases fv
  · have hc64 : c < 64 := by simpa using hf
    clear hf
    go_wp2
    go_ret
    exact ⟨rfl, hO.out, hC.out⟩
  · clear hf
    go_wp2
    go_ret
    exact ⟨rfl, hO.out, hC.out⟩
end
end Go.Proofs.Ytiahiakllpjliaa
