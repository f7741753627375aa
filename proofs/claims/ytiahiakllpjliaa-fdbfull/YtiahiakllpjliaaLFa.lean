/-
  The walk of FdbApart. Conditions: those that each theorem names.
-/
import Derived.Test.YtiahiakllpjliaaFdb13
namespace Go.Proofs.Ytiahiakllpjliaa
open Go.RowKit Go.Maps
set_option linter.unusedVariables false
set_option linter.unusedSimpArgs false
set_option maxRecDepth 20000

theorem m6_of_byte {a b c d e f : Int} (h : Byte [a, b, c, d, e, f]) : M6.wf ⟨a, b, c, d, e, f⟩ := by
  have h := fun x hx => h x hx
  simp at h
  simp only [M6.wf]
  omega
theorem fes_two {a b : Fe} (ha : timeOk a.seen ∧ a.m.wf) (hb : timeOk b.seen ∧ b.m.wf) : Fes [a, b] := ⟨by simp, fun e he => by simp at he; rcases he with rfl | rfl; exact ha; exact hb⟩
theorem fes_one {a : Fe} (ha : timeOk a.seen ∧ a.m.wf) : Fes [a] := ⟨by simp, fun e he => by simp at he; subst he; exact ha⟩
set_option maxHeartbeats 16000000 in
theorem Apart_walk (m : M6) (one two : Int) (w : World) (hm : m.wf) : Calls Try.prog 4 #[.agg m.row, .int .i64 one, .int .i64 two] w fun r w' => r = .returned (.bool true) ∧ Below w.heap.size w w' := by
  have ho := odd8 m.a hm.1
  have hb := hide (below1 w (.cells m.row 28))
  have hr := hide (heap_alloc_new w (.cells m.row 28))
  have hk := hide (keeps_any (w.alloc (.cells m.row 28)))
  have hg : Hid (grpB m = (m.a % 2 == 1)) := rfl
  generalize hR : m.row = R at *
  have hsz : (Try.prog.info? 28).map (·.size) = some R.size := by rw [← hR]; exact m6Size m
  have hR0 : R[0]? = some (.int .u8 m.a) := by rw [← hR]; rfl
  replace hR := hide hR
  generalize m.a = ma at *
  go_enter Try.func4, Try.ntmps4
  go_wp2_with fail
  refine hk.out.mono ?_
  rintro _ w1 ⟨rfl, hb1⟩
  have hr1 := hide (heap_kept hb1 hr.out)
  have hB1 := hide (hb.out.later hb1)
  have hc0 : w1.cell? ⟨w.heap.size, 0, none⟩ = some (.int .u8 ma) := (cell_of_row _ _ _ _ _ _ hr1.out).trans hR0
  generalize hmb : w.heap.size = mb at *
  clear hk hb hr hb1 hR0
  by_cases hodd : ma % 2 = 1
  · have hodd' : (ma % 2 == 1) = true := by rw [hodd]; rfl
    subst hmb
    go_wp2
    go_ret
    exact ⟨rfl, hB1.out⟩
  have hodd' : (ma % 2 == 1) = false := beq_eq_false_iff_ne.2 hodd
  have hgf : Hid (grpB m = false) := hg.out.trans hodd'
  by_cases hne : one = two
  · have hne' : (one == two) = true := by rw [hne]; simp
    subst hmb
    go_wp2
    go_ret
    exact ⟨rfl, hB1.out⟩
  have hne' : (one == two) = false := beq_eq_false_iff_ne.2 hne
  have hne2 : Hid ((two == one) = false) := beq_eq_false_iff_ne.2 (Ne.symm hne)
  have hmbl : Hid (mb < w1.heap.size) := (Array.getElem?_eq_some_iff.1 hr1.out).1
  clear hg
  go_wp2_with fail
  refine (FoNew (K := mb) (A := fun k => k = mb) 10 1000 w1 (fun k h => by subst h; exact hmbl.out) (Nat.le_of_lt hmbl.out)).mono ?_
  rintro _ w2 ⟨rfl, hF, hb2⟩
  have hF2 : Hid (Fo mb (fun k => k = mb) w2 w1.heap.size 10 1000 0 []) := hF
  have hB2 := hide (hB1.out.trans (hb2.mono (Nat.le_of_lt hmbl.out)))
  have hr2 := hide (heap_kept hb2 hr1.out)
  clear hF hB1 hr1 hb2 hc0 hmbl ho hodd hodd' hne
  generalize w1.heap.size = t at *
  clear w1
  have hkk : Hid (grpB m = false ∧ (one == two) = false ∧ (two == one) = false) := ⟨hgf.out, hne', hne2.out⟩
  clear hgf hne' hne2
  have hE : learnR 10 1000 0 [] one m 1 0 = (0, 0, [(⟨one, m, 1, 0⟩ : Fe)]) := by obtain ⟨h1, h2, h3⟩ := hkk.out; simp [learnR, aheadL, kept, isB, oldB, findR, findB, atB, h1, h2, h3, List.filter, List.find?]
  have hL := hide (FoLearn hF2.out fes_nil one m 1 0 hm (by decide) (by decide))
  rw [hE, hR.out] at hL
  clear hE
  go_wp2_with ((with_reducible change wpList _ _ _ _ _ _); refine wpList_load_row_on rfl 28 (.tmp 3) rfl mb rfl 28 _ _ _ hr2.out Try.underlying28 rfl hsz ?_)
  refine hL.out.mono ?_
  rintro _ w3 ⟨rfl, hFn, hBn, hKn⟩
  have hF3 : Hid (Fo mb _ w3 t 10 1000 0 [(⟨one, m, 1, 0⟩ : Fe)]) := hFn
  have hB3 := hide (hB2.out.trans hBn)
  have hr3 := hide ((hKn mb rfl).trans hr2.out)
  clear hL hFn hBn hKn hF2 hB2 hr2
  have hE : learnR 10 1000 0 [(⟨one, m, 1, 0⟩ : Fe)] two m 2 5 = (0, 0, [(⟨one, m, 1, 0⟩ : Fe), (⟨two, m, 2, 5⟩ : Fe)]) := by obtain ⟨h1, h2, h3⟩ := hkk.out; simp [learnR, aheadL, kept, isB, oldB, findR, findB, atB, h1, h2, h3, List.filter, List.find?]
  have hL := hide (FoLearn hF3.out (fes_one ⟨show timeOk 0 by decide, hm⟩) two m 2 5 hm (by decide) (by decide))
  rw [hE, hR.out] at hL
  clear hE
  go_wp2_with ((with_reducible change wpList _ _ _ _ _ _); refine wpList_load_row_on rfl 28 (.tmp 3) rfl mb rfl 28 _ _ _ hr3.out Try.underlying28 rfl hsz ?_)
  refine hL.out.mono ?_
  rintro _ w4 ⟨rfl, hFn, hBn, hKn⟩
  have hF4 : Hid (Fo mb _ w4 t 10 1000 0 [(⟨one, m, 1, 0⟩ : Fe), (⟨two, m, 2, 5⟩ : Fe)]) := hFn
  have hB4 := hide (hB3.out.trans hBn)
  have hr4 := hide ((hKn mb rfl).trans hr3.out)
  clear hL hFn hBn hKn hF3 hB3 hr3
  have hE : findR 1000 10 one m [(⟨one, m, 1, 0⟩ : Fe), (⟨two, m, 2, 5⟩ : Fe)] = (1, 0) := by obtain ⟨h1, h2, h3⟩ := hkk.out; simp [learnR, aheadL, kept, isB, oldB, findR, findB, atB, h1, h2, h3, List.filter, List.find?]
  have hL := hide (FoFind hF4.out (fes_two ⟨show timeOk 0 by decide, hm⟩ ⟨show timeOk 5 by decide, hm⟩) one m 10 hm (by decide))
  rw [hE, hR.out] at hL
  clear hE
  go_wp2_with ((with_reducible change wpList _ _ _ _ _ _); refine wpList_load_row_on rfl 28 (.tmp 3) rfl mb rfl 28 _ _ _ hr4.out Try.underlying28 rfl hsz ?_)
  refine hL.out.mono ?_
  rintro _ w5 ⟨rfl, hFn, hBn⟩
  have hF5 := hide hFn
  have hB5 := hide (hB4.out.trans (hBn.mono hF4.out.size))
  have hr5 := hide (heap_kept hBn hr4.out)
  clear hL hFn hBn hF4 hB4 hr4
  have hE : findR 1000 10 two m [(⟨one, m, 1, 0⟩ : Fe), (⟨two, m, 2, 5⟩ : Fe)] = (2, 0) := by obtain ⟨h1, h2, h3⟩ := hkk.out; simp [learnR, aheadL, kept, isB, oldB, findR, findB, atB, h1, h2, h3, List.filter, List.find?]
  have hL := hide (FoFind hF5.out (fes_two ⟨show timeOk 0 by decide, hm⟩ ⟨show timeOk 5 by decide, hm⟩) two m 10 hm (by decide))
  rw [hE, hR.out] at hL
  clear hE
  go_wp2_with ((with_reducible change wpList _ _ _ _ _ _); refine wpList_load_row_on rfl 28 (.tmp 3) rfl mb rfl 28 _ _ _ hr5.out Try.underlying28 rfl hsz ?_)
  refine hL.out.mono ?_
  rintro _ w6 ⟨rfl, hFn, hBn⟩
  have hF6 := hide hFn
  have hB6 := hide (hB5.out.trans (hBn.mono hF5.out.size))
  have hr6 := hide (heap_kept hBn hr5.out)
  clear hL hFn hBn hF5 hB5 hr5
  have hE : kept (atB 1) [(⟨one, m, 1, 0⟩ : Fe), (⟨two, m, 2, 5⟩ : Fe)] = [(⟨two, m, 2, 5⟩ : Fe)] := by obtain ⟨h1, h2, h3⟩ := hkk.out; simp [learnR, aheadL, kept, isB, oldB, findR, findB, atB, h1, h2, h3, List.filter, List.find?]
  have hL := hide (FoFlush hF6.out (fes_two ⟨show timeOk 0 by decide, hm⟩ ⟨show timeOk 5 by decide, hm⟩) 1)
  rw [hE] at hL
  clear hE
  go_wp2_with fail
  refine hL.out.mono ?_
  rintro _ w7 ⟨rfl, hFn, hBn, hKn⟩
  have hF7 := hide hFn
  have hB7 := hide (hB6.out.trans hBn)
  have hr7 := hide ((hKn mb rfl).trans hr6.out)
  clear hL hFn hBn hKn hF6 hB6 hr6
  have hE : findR 1000 10 one m [(⟨two, m, 2, 5⟩ : Fe)] = (0, 21) := by obtain ⟨h1, h2, h3⟩ := hkk.out; simp [learnR, aheadL, kept, isB, oldB, findR, findB, atB, h1, h2, h3, List.filter, List.find?]
  have hL := hide (FoFind hF7.out (fes_one ⟨show timeOk 5 by decide, hm⟩) one m 10 hm (by decide))
  rw [hE, hR.out] at hL
  clear hE
  go_wp2_with ((with_reducible change wpList _ _ _ _ _ _); refine wpList_load_row_on rfl 28 (.tmp 3) rfl mb rfl 28 _ _ _ hr7.out Try.underlying28 rfl hsz ?_)
  refine hL.out.mono ?_
  rintro _ w8 ⟨rfl, hFn, hBn⟩
  have hF8 := hide hFn
  have hB8 := hide (hB7.out.trans (hBn.mono hF7.out.size))
  have hr8 := hide (heap_kept hBn hr7.out)
  clear hL hFn hBn hF7 hB7 hr7
  have hE : findR 1000 10 two m [(⟨two, m, 2, 5⟩ : Fe)] = (2, 0) := by obtain ⟨h1, h2, h3⟩ := hkk.out; simp [learnR, aheadL, kept, isB, oldB, findR, findB, atB, h1, h2, h3, List.filter, List.find?]
  have hL := hide (FoFind hF8.out (fes_one ⟨show timeOk 5 by decide, hm⟩) two m 10 hm (by decide))
  rw [hE, hR.out] at hL
  clear hE
  go_wp2_with ((with_reducible change wpList _ _ _ _ _ _); refine wpList_load_row_on rfl 28 (.tmp 3) rfl mb rfl 28 _ _ _ hr8.out Try.underlying28 rfl hsz ?_)
  refine hL.out.mono ?_
  rintro _ w9 ⟨rfl, hFn, hBn⟩
  have hF9 := hide hFn
  have hB9 := hide (hB8.out.trans (hBn.mono hF8.out.size))
  have hr9 := hide (heap_kept hBn hr8.out)
  clear hL hFn hBn hF8 hB8 hr8
  subst hmb
  go_wp2
  go_ret
  exact ⟨rfl, hB9.out⟩
end Go.Proofs.Ytiahiakllpjliaa
