/-
  The walk of StreamVids. Conditions: those that each theorem names.
-/
import Derived.Test.YtiahiakllpjliaaSm9
namespace Go.Proofs.Ytiahiakllpjliaa
open Go.RowKit Go.Maps
set_option linter.unusedVariables false
set_option linter.unusedSimpArgs false
set_option maxRecDepth 20000

theorem m6_of_byteS {a b c d e f : Int} (h : Byte [a, b, c, d, e, f]) : M6.wf ⟨a, b, c, d, e, f⟩ := by
  have h := fun x hx => h x hx
  simp at h
  simp only [M6.wf]
  omega
theorem stop_allocS {P : Program} {ops : Array Oper} {rest : List Oper} {o : Oper} {a : Act} {w : World} {Q : Exit → Act → World → Prop} (t : TypeId) (_ho : o.op = .alloc t) (h : Hid (wpList P ops Q (o :: rest) a w)) : wpList P ops Q (o :: rest) a w := h.out
set_option maxHeartbeats 16000000 in
theorem Vids_walk (m : M6) (vid other : Int) (W : World) (hm : m.wf) : Calls Try.prog 11 #[.agg m.row, .int .i64 vid, .int .i64 other] W fun r w' => r = .returned (.bool true) ∧ Below W.heap.size W w' := by
  have hb := hide (below1 W (.cells m.row 28))
  have hr := hide (heap_alloc_new W (.cells m.row 28))
  have hk := hide (finds_any (W.alloc (.cells m.row 28)))
  have hE := m6_eql m mNul hm (by decide)
  generalize hd0 : decide (m = mNul) = d0 at *
  replace hd0 := hide hd0
  go_enter Try.func11, Try.ntmps11
  go_wp2_with fail
  refine hk.out.mono ?_
  rintro _ w1 ⟨rfl, hb1⟩
  have hA := hide (heap_kept hb1 hr.out)
  have hB1 := hide (hb.out.later hb1)
  clear hk hb hr hb1
  by_cases q1 : vid < 1
  · go_wp2
    go_ret
    exact ⟨rfl, hB1.out⟩
  by_cases q2 : 4094 < vid
  · go_wp2
    go_ret
    exact ⟨rfl, hB1.out⟩
  by_cases q3 : other < 1
  · go_wp2
    go_ret
    exact ⟨rfl, hB1.out⟩
  by_cases q4 : 4094 < other
  · go_wp2
    go_ret
    exact ⟨rfl, hB1.out⟩
  have hdp1 : decide (vid < 1) = false := decide_eq_false (by assumption)
  have hdp2 : decide (4094 < vid) = false := decide_eq_false (by assumption)
  have hdp3 : decide (other < 1) = false := decide_eq_false (by assumption)
  have hdp4 : decide (4094 < other) = false := decide_eq_false (by assumption)
  by_cases hov : other = vid
  · have hov' : (other == vid) = true := by simp [hov]
    go_wp2
    go_ret
    exact ⟨rfl, hB1.out⟩
  have hov' : (other == vid) = false := beq_eq_false_iff_ne.2 hov
  have hr0 : Hid ((1 ≤ vid ∧ vid ≤ 4094) ∧ (1 ≤ other ∧ other ≤ 4094) ∧ other ≠ vid) := hide ⟨by omega, by omega, hov⟩
  cases d0
  case true =>
    go_wp2_with ((with_reducible change wpList _ _ _ _ _ _); refine wpList_load_row_on rfl 28 (.tmp 3) rfl W.heap.size rfl 28 _ _ _ hA.out Try.underlying28 rfl (m6Size _) ?_)
    go_ret
    exact ⟨rfl, hB1.out⟩
  have hmne : Hid (¬ m = mNul) := of_decide_eq_false hd0.out
  have hmne2 : Hid (¬ mNul = m) := fun e => hmne.out e.symm
  go_wp2_with (first | ((with_reducible change wpList _ _ _ _ _ _); refine wpList_load_row_on rfl 28 (.tmp 3) rfl W.heap.size rfl 28 _ _ _ hA.out Try.underlying28 rfl (m6Size _) ?_) | ((with_reducible change wpList _ _ _ _ _ _); refine stop_allocS 69 rfl ?_))
  refine hide ?_
  have hN := hide (Fso.new w1 W.heap.size (fun k => k = W.heap.size) (fun k h => by subst h; exact (Array.getElem?_eq_some_iff.1 hA.out).1) hB1.out.size)
  have hb2 := below1 w1 (.cells #[.slice none 0 0] 69)
  have hB2 := hide (hB1.out.trans (hb2.mono hB1.out.size))
  replace hA := hide (heap_kept hb2 hA.out)
  have hF2 := hide hN.out
  clear hb2 hN hB1
  have hf0 : Hid (Sfs [(⟨0, m, vid, 1⟩ : Sf)]) := ⟨by simp, fun e he => by simp at he; subst he; exact hm⟩
  have hf1 : Hid (Sfs [(⟨0, m, vid, 1⟩ : Sf), ⟨0, m, 0, 2⟩]) := ⟨by simp, fun e he => by simp at he; rcases he with rfl | rfl <;> exact hm⟩
  have e1 : Hid (addR [] ⟨0, m, vid, 1⟩ = (0, [⟨0, m, vid, 1⟩])) := by
    have h := hr0.out
    refine hide ?_
    have h1 : mayF ⟨0, m, vid, 1⟩ = true := by simp [mayF]; omega
    simp [addR, h1]
  have e2 : Hid (findS m mNul vid [(⟨0, m, vid, 1⟩ : Sf)] = 1) := hide (by simp [findS, tellB, List.find?])
  have e3 : Hid (findS m mNul other [(⟨0, m, vid, 1⟩ : Sf)] = -1) := by
    have h := hr0.out
    refine hide ?_
    have h1 : (vid == 0) = false := beq_eq_false_iff_ne.2 (by omega)
    have h2 : (vid == other) = false := beq_eq_false_iff_ne.2 (fun e => h.2.2 e.symm)
    simp [findS, tellB, List.find?, h1, h2]
  have e4 : Hid (findS mNul m vid [(⟨0, m, vid, 1⟩ : Sf)] = -1) := hide (by have h1 := hmne.out; simp [findS, tellB, List.find?, h1])
  have e5 : Hid (addR [(⟨0, m, vid, 1⟩ : Sf)] ⟨0, m, 0, 2⟩ = (0, [⟨0, m, vid, 1⟩, ⟨0, m, 0, 2⟩])) := by
    have h := hr0.out
    refine hide ?_
    have h1 : mayF ⟨0, m, 0, 2⟩ = true := by simp [mayF]
    have h2 : ¬ vid = 0 := by omega
    simp [addR, h1, thatB, h2]
  have e6 : Hid (findS m mNul vid [(⟨0, m, vid, 1⟩ : Sf), ⟨0, m, 0, 2⟩] = 1) := hide (by simp [findS, tellB, List.find?])
  have e7 : Hid (findS m mNul other [(⟨0, m, vid, 1⟩ : Sf), ⟨0, m, 0, 2⟩] = 2) := by
    have h := hr0.out
    refine hide ?_
    have h1 : (vid == 0) = false := beq_eq_false_iff_ne.2 (by omega)
    have h2 : (vid == other) = false := beq_eq_false_iff_ne.2 (fun e => h.2.2 e.symm)
    simp [findS, tellB, List.find?, h1, h2]
  replace hm := hide hm
  clear hd0
  have hL := hide (SoAdd hF2.out Sfs.nil ⟨0, m, vid, 1⟩ hm.out)
  rw [e1.out] at hL
  go_wp2_with ((with_reducible change wpList _ _ _ _ _ _); refine wpList_load_row_on rfl 28 (.tmp 3) rfl W.heap.size rfl 28 _ _ _ hA.out Try.underlying28 rfl (m6Size _) ?_)
  refine hL.out.mono ?_
  rintro _ w3 ⟨rfl, hFn, hBn, hKn⟩
  have hF3 := hide hFn
  have hB3 := hide (hB2.out.trans hBn)
  replace hA := hide ((hKn W.heap.size rfl).trans hA.out)
  clear hL hFn hBn hKn hF2 hB2
  generalize w1.heap.size = t at *
  replace hF3 : Hid (Fso W.heap.size _ w3 t [⟨0, m, vid, 1⟩]) := hF3
  clear hE w1
  have hL := hide (SoFind hF3.out hf0.out (hdC m mNul false 0 false 0 0 false) m mNul (hdC_mac _ _ _ _ _ _ _ _) vid hm.out (by decide))
  rw [e2.out] at hL
  go_wp2_with ((with_reducible change wpList _ _ _ _ _ _); refine wpList_load_row_on rfl 28 (.tmp 3) rfl W.heap.size rfl 28 _ _ _ hA.out Try.underlying28 rfl (m6Size _) ?_)
  refine hL.out.mono ?_
  rintro _ w4 ⟨rfl, hFn, hBn⟩
  have hF4 := hide hFn
  have hB4 := hide (hB3.out.trans (hBn.mono hF3.out.size))
  replace hA := hide (heap_kept hBn hA.out)
  clear hL hFn hBn hF3 hB3
  have hL := hide (SoFind hF4.out hf0.out (hdC m mNul false 0 false 0 0 false) m mNul (hdC_mac _ _ _ _ _ _ _ _) other hm.out (by decide))
  rw [e3.out] at hL
  go_wp2_with ((with_reducible change wpList _ _ _ _ _ _); refine wpList_load_row_on rfl 28 (.tmp 3) rfl W.heap.size rfl 28 _ _ _ hA.out Try.underlying28 rfl (m6Size _) ?_)
  refine hL.out.mono ?_
  rintro _ w5 ⟨rfl, hFn, hBn⟩
  have hF5 := hide hFn
  have hB5 := hide (hB4.out.trans (hBn.mono hF4.out.size))
  replace hA := hide (heap_kept hBn hA.out)
  clear hL hFn hBn hF4 hB4
  have hL := hide (SoFind hF5.out hf0.out (hdC mNul m false 0 false 0 0 false) mNul m (hdC_mac _ _ _ _ _ _ _ _) vid (by decide) hm.out)
  rw [e4.out] at hL
  go_wp2_with ((with_reducible change wpList _ _ _ _ _ _); refine wpList_load_row_on rfl 28 (.tmp 3) rfl W.heap.size rfl 28 _ _ _ hA.out Try.underlying28 rfl (m6Size _) ?_)
  refine hL.out.mono ?_
  rintro _ w6 ⟨rfl, hFn, hBn⟩
  have hF6 := hide hFn
  have hB6 := hide (hB5.out.trans (hBn.mono hF5.out.size))
  replace hA := hide (heap_kept hBn hA.out)
  clear hL hFn hBn hF5 hB5
  have hL := hide (SoAdd hF6.out hf0.out ⟨0, m, 0, 2⟩ hm.out)
  rw [e5.out] at hL
  go_wp2_with ((with_reducible change wpList _ _ _ _ _ _); refine wpList_load_row_on rfl 28 (.tmp 3) rfl W.heap.size rfl 28 _ _ _ hA.out Try.underlying28 rfl (m6Size _) ?_)
  refine hL.out.mono ?_
  rintro _ w7 ⟨rfl, hFn, hBn, hKn⟩
  have hF7 := hide hFn
  have hB7 := hide (hB6.out.trans hBn)
  replace hA := hide ((hKn W.heap.size rfl).trans hA.out)
  clear hL hFn hBn hKn hF6 hB6
  replace hF7 : Hid (Fso W.heap.size _ w7 t [⟨0, m, vid, 1⟩, ⟨0, m, 0, 2⟩]) := hF7
  have hL := hide (SoFind hF7.out hf1.out (hdC m mNul false 0 false 0 0 false) m mNul (hdC_mac _ _ _ _ _ _ _ _) vid hm.out (by decide))
  rw [e6.out] at hL
  go_wp2_with ((with_reducible change wpList _ _ _ _ _ _); refine wpList_load_row_on rfl 28 (.tmp 3) rfl W.heap.size rfl 28 _ _ _ hA.out Try.underlying28 rfl (m6Size _) ?_)
  refine hL.out.mono ?_
  rintro _ w8 ⟨rfl, hFn, hBn⟩
  have hF8 := hide hFn
  have hB8 := hide (hB7.out.trans (hBn.mono hF7.out.size))
  replace hA := hide (heap_kept hBn hA.out)
  clear hL hFn hBn hF7 hB7
  have hL := hide (SoFind hF8.out hf1.out (hdC m mNul false 0 false 0 0 false) m mNul (hdC_mac _ _ _ _ _ _ _ _) other hm.out (by decide))
  rw [e7.out] at hL
  go_wp2_with ((with_reducible change wpList _ _ _ _ _ _); refine wpList_load_row_on rfl 28 (.tmp 3) rfl W.heap.size rfl 28 _ _ _ hA.out Try.underlying28 rfl (m6Size _) ?_)
  refine hL.out.mono ?_
  rintro _ w9 ⟨rfl, hFn, hBn⟩
  have hF9 := hide hFn
  have hB9 := hide (hB8.out.trans (hBn.mono hF8.out.size))
  replace hA := hide (heap_kept hBn hA.out)
  clear hL hFn hBn hF8 hB8
  go_wp2
  go_ret
  exact ⟨rfl, hB9.out⟩
end Go.Proofs.Ytiahiakllpjliaa
