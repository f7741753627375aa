/-
  'finds' of layer 14's statements. Conditions: those that each theorem names.
-/
import Derived.Test.YtiahiakllpjliaaSm8
namespace Go.Proofs.Ytiahiakllpjliaa
open Go.RowKit Go.Maps
set_option linter.unusedVariables false
set_option linter.unusedSimpArgs false
set_option maxRecDepth 20000

@[reducible] def mOne : M6 := ⟨2, 1, 0, 0, 0, 0⟩
@[reducible] def mNul : M6 := ⟨0, 0, 0, 0, 0, 0⟩
theorem alloc_St (w : World) : (Instr.alloc 69 true (.tuple #[])).run Try.prog w = .ok (.pointer (some ⟨w.heap.size, 0, none⟩)) (w.alloc (.cells #[.slice none 0 0] 69)) := by
  go_simp
set_option maxHeartbeats 16000000 in
theorem finds_any (w : World) : Calls Try.prog 27 #[] w fun r w' => r = .returned (.bool true) ∧ Below w.heap.size w w' := by
  have hN := hide (Fso.new w w.heap.size (fun _ => False) (fun k h => h.elim) (Nat.le_refl _))
  have hb1 := hide (below1 w (.cells #[.slice none 0 0] 69))
  have hs1 : Hid ((w.alloc (.cells #[.slice none 0 0] 69)).heap.size = w.heap.size + 1) := World.size_alloc _ _
  go_enter Try.func27, Try.ntmps27
  go_wp2_with ((with_reducible change wpList _ _ _ _ _ _); refine stop_storeB 28 (.tmp 2) (.tmp 3) rfl ?_)
  generalize hw1 : w.alloc (.cells #[.slice none 0 0] 69) = w1 at *
  refine hide (fresh_atC rfl 28 (.tmp 2) (.tmp 3) rfl (w.heap.size + 1) hs1.out.symm mOne.row mNul.row rfl rfl 28 (m6Size _) rfl (by simp [Value.oneCell']) ?_)
  intro w3 h3 hb3
  have hF3 := hide (hN.out.more (A' := fun k => k = w.heap.size + 1) hb3 (fun k e => .inr (by subst e; have h1 := hs1.out; have h2 := (Array.getElem?_eq_some_iff.1 h3).1; omega)))
  have hB3 := hide (hb1.out.trans (hb3.mono (by have := hs1.out; omega)))
  have hA := hide h3
  clear hN hb1 hb3 h3 hs1 hw1
  generalize hta : w.heap.size + 1 = a at *

  have hL := hide (SoAdd hF3.out Sfs.nil (⟨0, mOne, 5, 7⟩ : Sf) (by decide))
  rw [show addR [] (⟨0, mOne, 5, 7⟩ : Sf) = (0, [(⟨0, mOne, 5, 7⟩ : Sf)]) by decide] at hL
  go_wp2_with ((with_reducible change wpList _ _ _ _ _ _); refine wpList_load_row_on rfl 28 (.tmp 2) rfl a rfl 28 _ _ _ hA.out Try.underlying28 rfl (m6Size _) ?_)
  refine hL.out.mono ?_
  rintro _ w4 ⟨rfl, hFn, hBn, hKn⟩
  have hF4 : Hid (Fso w.heap.size _ w4 w.heap.size [(⟨0, mOne, 5, 7⟩ : Sf)]) := hFn
  have hB4 := hide (hB3.out.trans hBn)
  replace hA := hide ((hKn a rfl).trans hA.out)
  clear hL hFn hBn hKn hF3 hB3
  have hL := hide (SoAdd hF4.out ⟨by decide, by simp [M6.wf]⟩ (⟨1, mOne, 0, 8⟩ : Sf) (by decide))
  rw [show addR [(⟨0, mOne, 5, 7⟩ : Sf)] (⟨1, mOne, 0, 8⟩ : Sf) = (0, [(⟨0, mOne, 5, 7⟩ : Sf), (⟨1, mOne, 0, 8⟩ : Sf)]) by decide] at hL
  go_wp2_with ((with_reducible change wpList _ _ _ _ _ _); refine wpList_load_row_on rfl 28 (.tmp 2) rfl a rfl 28 _ _ _ hA.out Try.underlying28 rfl (m6Size _) ?_)
  refine hL.out.mono ?_
  rintro _ w5 ⟨rfl, hFn, hBn, hKn⟩
  have hF5 : Hid (Fso w.heap.size _ w5 w.heap.size [(⟨0, mOne, 5, 7⟩ : Sf), (⟨1, mOne, 0, 8⟩ : Sf)]) := hFn
  have hB5 := hide (hB4.out.trans hBn)
  replace hA := hide ((hKn a rfl).trans hA.out)
  clear hL hFn hBn hKn hF4 hB4
  have hL := hide (SoAdd hF5.out ⟨by decide, by simp [M6.wf]⟩ (⟨0, mOne, 5, 9⟩ : Sf) (by decide))
  rw [show addR [(⟨0, mOne, 5, 7⟩ : Sf), (⟨1, mOne, 0, 8⟩ : Sf)] (⟨0, mOne, 5, 9⟩ : Sf) = (22, [(⟨0, mOne, 5, 7⟩ : Sf), (⟨1, mOne, 0, 8⟩ : Sf)]) by decide] at hL
  go_wp2_with ((with_reducible change wpList _ _ _ _ _ _); refine wpList_load_row_on rfl 28 (.tmp 2) rfl a rfl 28 _ _ _ hA.out Try.underlying28 rfl (m6Size _) ?_)
  refine hL.out.mono ?_
  rintro _ w6 ⟨rfl, hFn, hBn, hKn⟩
  have hF6 : Hid (Fso w.heap.size _ w6 w.heap.size [(⟨0, mOne, 5, 7⟩ : Sf), (⟨1, mOne, 0, 8⟩ : Sf)]) := hFn
  have hB6 := hide (hB5.out.trans hBn)
  replace hA := hide ((hKn a rfl).trans hA.out)
  clear hL hFn hBn hKn hF5 hB5
  have hL := hide (SoFind hF6.out ⟨by decide, by simp [M6.wf]⟩ (hdC mOne mNul false 0 false 0 0 false) mOne mNul (hdC_mac _ _ _ _ _ _ _ _) 5 (by decide) (by decide))
  rw [show findS mOne mNul 5 [(⟨0, mOne, 5, 7⟩ : Sf), (⟨1, mOne, 0, 8⟩ : Sf)] = 7 by decide] at hL
  go_wp2_with ((with_reducible change wpList _ _ _ _ _ _); refine wpList_load_row_on rfl 28 (.tmp 2) rfl a rfl 28 _ _ _ hA.out Try.underlying28 rfl (m6Size _) ?_)
  refine hL.out.mono ?_
  rintro _ w7 ⟨rfl, hFn, hBn⟩
  have hF7 := hide hFn
  have hB7 := hide (hB6.out.trans (hBn.mono hF6.out.size))
  replace hA := hide (heap_kept hBn hA.out)
  clear hL hFn hBn hF6 hB6
  have hL := hide (SoFind hF7.out ⟨by decide, by simp [M6.wf]⟩ (hdC mOne mNul false 0 false 0 0 false) mOne mNul (hdC_mac _ _ _ _ _ _ _ _) 6 (by decide) (by decide))
  rw [show findS mOne mNul 6 [(⟨0, mOne, 5, 7⟩ : Sf), (⟨1, mOne, 0, 8⟩ : Sf)] = -1 by decide] at hL
  go_wp2_with ((with_reducible change wpList _ _ _ _ _ _); refine wpList_load_row_on rfl 28 (.tmp 2) rfl a rfl 28 _ _ _ hA.out Try.underlying28 rfl (m6Size _) ?_)
  refine hL.out.mono ?_
  rintro _ w8 ⟨rfl, hFn, hBn⟩
  have hF8 := hide hFn
  have hB8 := hide (hB7.out.trans (hBn.mono hF7.out.size))
  replace hA := hide (heap_kept hBn hA.out)
  clear hL hFn hBn hF7 hB7
  have hL := hide (SoFind hF8.out ⟨by decide, by simp [M6.wf]⟩ (hdC mNul mOne false 0 false 0 0 false) mNul mOne (hdC_mac _ _ _ _ _ _ _ _) 6 (by decide) (by decide))
  rw [show findS mNul mOne 6 [(⟨0, mOne, 5, 7⟩ : Sf), (⟨1, mOne, 0, 8⟩ : Sf)] = 8 by decide] at hL
  go_wp2_with ((with_reducible change wpList _ _ _ _ _ _); refine wpList_load_row_on rfl 28 (.tmp 2) rfl a rfl 28 _ _ _ hA.out Try.underlying28 rfl (m6Size _) ?_)
  refine hL.out.mono ?_
  rintro _ w9 ⟨rfl, hFn, hBn⟩
  have hF9 := hide hFn
  have hB9 := hide (hB8.out.trans (hBn.mono hF8.out.size))
  replace hA := hide (heap_kept hBn hA.out)
  clear hL hFn hBn hF8 hB8
  have hL := hide (SoAll hF9.out ⟨by decide, by simp [M6.wf]⟩)
  go_wp2_with ((with_reducible change wpList _ _ _ _ _ _); refine wpList_load_row_on rfl 28 (.tmp 2) rfl a rfl 28 _ _ _ hA.out Try.underlying28 rfl (m6Size _) ?_)
  refine hL.out.mono ?_
  rintro _ w10 ⟨v', rfl, hS, hFn, hBn, -⟩
  obtain ⟨va, vc, rfl⟩ := hS.shape
  have hF10 := hide hFn
  have hB10 := hide (hB9.out.trans (hBn.mono hF9.out.size))
  replace hA := hide (heap_kept hBn hA.out)
  clear hL hS hFn hBn hF9 hB9
  have hL := hide (SoRem hF10.out ⟨by decide, by simp [M6.wf]⟩ 0 mOne 5 (by decide))
  rw [show remR [(⟨0, mOne, 5, 7⟩ : Sf), (⟨1, mOne, 0, 8⟩ : Sf)] 0 mOne 5 = (0, [(⟨1, mOne, 0, 8⟩ : Sf)]) by decide] at hL
  go_wp2_with ((with_reducible change wpList _ _ _ _ _ _); refine wpList_load_row_on rfl 28 (.tmp 2) rfl a rfl 28 _ _ _ hA.out Try.underlying28 rfl (m6Size _) ?_)
  refine hL.out.mono ?_
  rintro _ w11 ⟨rfl, hFn, hBn, hKn⟩
  have hF11 : Hid (Fso w.heap.size _ w11 w.heap.size [(⟨1, mOne, 0, 8⟩ : Sf)]) := hFn
  have hB11 := hide (hB10.out.trans hBn)
  replace hA := hide ((hKn a rfl).trans hA.out)
  clear hL hFn hBn hKn hF10 hB10
  have hL := hide (SoRem hF11.out ⟨by decide, by simp [M6.wf]⟩ 0 mOne 5 (by decide))
  rw [show remR [(⟨1, mOne, 0, 8⟩ : Sf)] 0 mOne 5 = (21, [(⟨1, mOne, 0, 8⟩ : Sf)]) by decide] at hL
  go_wp2_with ((with_reducible change wpList _ _ _ _ _ _); refine wpList_load_row_on rfl 28 (.tmp 2) rfl a rfl 28 _ _ _ hA.out Try.underlying28 rfl (m6Size _) ?_)
  refine hL.out.mono ?_
  rintro _ w12 ⟨rfl, hFn, hBn, hKn⟩
  have hF12 : Hid (Fso w.heap.size _ w12 w.heap.size [(⟨1, mOne, 0, 8⟩ : Sf)]) := hFn
  have hB12 := hide (hB11.out.trans hBn)
  replace hA := hide ((hKn a rfl).trans hA.out)
  clear hL hFn hBn hKn hF11 hB11
  go_wp2
  go_ret
  exact ⟨rfl, hB12.out⟩
end Go.Proofs.Ytiahiakllpjliaa
