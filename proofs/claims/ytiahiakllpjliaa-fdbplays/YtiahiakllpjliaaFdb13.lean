/-
  'keeps' of layer 12's statements. Conditions: those that each theorem names.
-/
import Derived.Test.YtiahiakllpjliaaFdb12
namespace Go.Proofs.Ytiahiakllpjliaa
open Go.RowKit Go.Maps
set_option linter.unusedVariables false
set_option maxRecDepth 20000

instance (m : M6) : Decidable m.wf := by unfold M6.wf; exact inferInstance
instance (n : Int) : Decidable (timeOk n) := by unfold timeOk; exact inferInstance
theorem fes_nil : Fes [] := ⟨by decide, fun e he => by cases he⟩
set_option maxHeartbeats 16000000 in
theorem keeps_any (w : World) : Calls Try.prog 13 #[] w fun r w' => r = .returned (.bool true) ∧ Below w.heap.size w w' := by
  go_enter Try.func13, Try.ntmps13
  go_wp2_with fail
  refine (FoNew (K := w.heap.size) (A := fun _ => False) 2 100 w (fun k h => h.elim) (Nat.le_refl _)).mono ?_
  rintro _ w1 ⟨rfl, hF, hb⟩
  have hF0 : Hid (Fo w.heap.size (fun _ => False) w1 w.heap.size 2 100 0 []) := hF
  have hB1 := hide hb
  clear hF hb
  generalize htw : w.heap.size = t at *
  go_wp2_with ((with_reducible change wpList _ _ _ _ _ _); refine stop_storeB 28 (.tmp 2) (.tmp 9) rfl ?_)
  have hza := heap_alloc_new w1 (.cells (M6.row ⟨0, 0, 0, 0, 0, 0⟩) 28)
  have hzb := heap_alloc_new (w1.alloc (.cells (M6.row ⟨0, 0, 0, 0, 0, 0⟩) 28)) (.cells (M6.row ⟨0, 0, 0, 0, 0, 0⟩) 28)
  rw [World.size_alloc] at hzb
  have hza2 := heap_kept (below1 (w1.alloc (.cells (M6.row ⟨0, 0, 0, 0, 0, 0⟩) 28)) (.cells (M6.row ⟨0, 0, 0, 0, 0, 0⟩) 28)) hza
  have hF2 := hF0.out.more (A' := fun k => k = w1.heap.size ∨ k = w1.heap.size + 1) ((below1 w1 (.cells (M6.row ⟨0, 0, 0, 0, 0, 0⟩) 28)).later (below1 _ (.cells (M6.row ⟨0, 0, 0, 0, 0, 0⟩) 28))) (fun k e => .inr (by rw [World.size_alloc, World.size_alloc]; omega))
  have hB2 := hB1.out.trans (((below1 w1 (.cells (M6.row ⟨0, 0, 0, 0, 0, 0⟩) 28)).later (below1 _ (.cells (M6.row ⟨0, 0, 0, 0, 0, 0⟩) 28))).mono hF0.out.size)
  have hta := hF0.out.size
  generalize ha : w1.heap.size = a at *
  generalize (w1.alloc (.cells (M6.row ⟨0, 0, 0, 0, 0, 0⟩) 28)).alloc (.cells (M6.row ⟨0, 0, 0, 0, 0, 0⟩) 28) = w2 at *
  have hra : (w2.setRow a (M6.row ⟨2, 1, 0, 0, 0, 0⟩)).heap[a]? = some (.cells (M6.row ⟨2, 1, 0, 0, 0, 0⟩) 28 (0, 0)) := setRow_heap _ _ _ _ _ _ hza2
  have hzb2 := (Go.setRow_other w2 a (a + 1) (M6.row ⟨2, 1, 0, 0, 0, 0⟩) (by omega)).trans hzb
  have hrb : ((w2.setRow a (M6.row ⟨2, 1, 0, 0, 0, 0⟩)).setRow (a + 1) (M6.row ⟨2, 2, 0, 0, 0, 0⟩)).heap[a + 1]? = some (.cells (M6.row ⟨2, 2, 0, 0, 0, 0⟩) 28 (0, 0)) := setRow_heap _ _ _ _ _ _ hzb2
  have hra2 := (Go.setRow_other (w2.setRow a (M6.row ⟨2, 1, 0, 0, 0, 0⟩)) (a + 1) a (M6.row ⟨2, 2, 0, 0, 0, 0⟩) (by omega)).trans hra
  refine hide (wpList_store_row rfl 28 (.tmp 2) (.tmp 9) rfl a (M6.row ⟨2, 1, 0, 0, 0, 0⟩) rfl rfl 28 _ hza2 (m6Size _) rfl (by simp [Value.oneCell']) ?_)
  go_wp2_with ((with_reducible change wpList _ _ _ _ _ _); refine stop_storeB 28 (.tmp 3) (.tmp 10) rfl ?_)
  refine hide (wpList_store_row rfl 28 (.tmp 3) (.tmp 10) rfl (a + 1) (M6.row ⟨2, 2, 0, 0, 0, 0⟩) rfl rfl 28 _ hzb2 (m6Size _) rfl (by simp [Value.oneCell']) ?_)
  have hC : Ch (fun k => k = a ∨ k = a + 1) w2 ((w2.setRow a (M6.row ⟨2, 1, 0, 0, 0, 0⟩)).setRow (a + 1) (M6.row ⟨2, 2, 0, 0, 0, 0⟩)) := ⟨rfl, rfl, rfl, by simp [World.setRow], fun k _ hk => (Go.setRow_other _ _ _ _ (fun e => hk (.inr e))).trans (Go.setRow_other _ _ _ _ (fun e => hk (.inl e)))⟩
  have hF3 := hide (hF2.wrote hC)
  have hB3 := hide (hB2.trans (hC.belowK (K := t) (by rintro k (rfl | rfl) <;> omega) hF2.size))
  generalize (w2.setRow a (M6.row ⟨2, 1, 0, 0, 0, 0⟩)).setRow (a + 1) (M6.row ⟨2, 2, 0, 0, 0, 0⟩) = w3 at *
  have hA := hide hra2
  have hB := hide hrb
  clear hza hzb hza2 hF2 hB2 ha hra hzb2 hrb hra2 hC hF0 hB1 w2 w1 hta

  go_wp2_with (first | ((with_reducible change wpList _ _ _ _ _ _); refine wpList_load_row_on rfl 28 (.tmp 2) rfl a rfl 28 _ _ _ hA.out Try.underlying28 rfl (m6Size _) ?_) | ((with_reducible change wpList _ _ _ _ _ _); refine wpList_load_row_on rfl 28 (.tmp 3) rfl (a + 1) rfl 28 _ _ _ hB.out Try.underlying28 rfl (m6Size _) ?_))
  have hE : learnR 2 100 0 [] 1 ⟨2, 1, 0, 0, 0, 0⟩ 3 0 = (0, 0, [(⟨1, ⟨2, 1, 0, 0, 0, 0⟩, 3, 0⟩ : Fe)]) := by decide
  have hL := hide (FoLearn hF3.out fes_nil 1 ⟨2, 1, 0, 0, 0, 0⟩ 3 0 (by decide) (by decide) (by decide))
  rw [hE] at hL
  clear hE
  refine hL.out.mono ?_
  rintro _ w4 ⟨rfl, hFn, hBn, hKn⟩
  have hF4 : Hid (Fo t _ w4 t 2 100 0 [(⟨1, ⟨2, 1, 0, 0, 0, 0⟩, 3, 0⟩ : Fe)]) := hFn
  have hB4 := hide (hB3.out.trans hBn)
  replace hA := hide ((hKn a (.inl rfl)).trans hA.out)
  replace hB := hide ((hKn (a + 1) (.inr rfl)).trans hB.out)
  clear hL hFn hBn hKn hF3 hB3
  go_wp2_with (first | ((with_reducible change wpList _ _ _ _ _ _); refine wpList_load_row_on rfl 28 (.tmp 2) rfl a rfl 28 _ _ _ hA.out Try.underlying28 rfl (m6Size _) ?_) | ((with_reducible change wpList _ _ _ _ _ _); refine wpList_load_row_on rfl 28 (.tmp 3) rfl (a + 1) rfl 28 _ _ _ hB.out Try.underlying28 rfl (m6Size _) ?_))
  have hE : learnR 2 100 0 [(⟨1, ⟨2, 1, 0, 0, 0, 0⟩, 3, 0⟩ : Fe)] 1 ⟨2, 2, 0, 0, 0, 0⟩ 4 50 = (0, 0, [(⟨1, ⟨2, 1, 0, 0, 0, 0⟩, 3, 0⟩ : Fe), (⟨1, ⟨2, 2, 0, 0, 0, 0⟩, 4, 50⟩ : Fe)]) := by decide
  have hL := hide (FoLearn hF4.out ⟨by decide, by simp [timeOk, M6.wf]⟩ 1 ⟨2, 2, 0, 0, 0, 0⟩ 4 50 (by decide) (by decide) (by decide))
  rw [hE] at hL
  clear hE
  refine hL.out.mono ?_
  rintro _ w5 ⟨rfl, hFn, hBn, hKn⟩
  have hF5 : Hid (Fo t _ w5 t 2 100 0 [(⟨1, ⟨2, 1, 0, 0, 0, 0⟩, 3, 0⟩ : Fe), (⟨1, ⟨2, 2, 0, 0, 0, 0⟩, 4, 50⟩ : Fe)]) := hFn
  have hB5 := hide (hB4.out.trans hBn)
  replace hA := hide ((hKn a (.inl rfl)).trans hA.out)
  replace hB := hide ((hKn (a + 1) (.inr rfl)).trans hB.out)
  clear hL hFn hBn hKn hF4 hB4
  go_wp2_with (first | ((with_reducible change wpList _ _ _ _ _ _); refine wpList_load_row_on rfl 28 (.tmp 2) rfl a rfl 28 _ _ _ hA.out Try.underlying28 rfl (m6Size _) ?_) | ((with_reducible change wpList _ _ _ _ _ _); refine wpList_load_row_on rfl 28 (.tmp 3) rfl (a + 1) rfl 28 _ _ _ hB.out Try.underlying28 rfl (m6Size _) ?_))
  have hE : learnR 2 100 0 [(⟨1, ⟨2, 1, 0, 0, 0, 0⟩, 3, 0⟩ : Fe), (⟨1, ⟨2, 2, 0, 0, 0, 0⟩, 4, 50⟩ : Fe)] 2 ⟨2, 1, 0, 0, 0, 0⟩ 5 60 = (20, 1, [(⟨1, ⟨2, 1, 0, 0, 0, 0⟩, 3, 0⟩ : Fe), (⟨1, ⟨2, 2, 0, 0, 0, 0⟩, 4, 50⟩ : Fe)]) := by decide
  have hL := hide (FoLearn hF5.out ⟨by decide, by simp [timeOk, M6.wf]⟩ 2 ⟨2, 1, 0, 0, 0, 0⟩ 5 60 (by decide) (by decide) (by decide))
  rw [hE] at hL
  clear hE
  refine hL.out.mono ?_
  rintro _ w6 ⟨rfl, hFn, hBn, hKn⟩
  have hF6 : Hid (Fo t _ w6 t 2 100 1 [(⟨1, ⟨2, 1, 0, 0, 0, 0⟩, 3, 0⟩ : Fe), (⟨1, ⟨2, 2, 0, 0, 0, 0⟩, 4, 50⟩ : Fe)]) := hFn
  have hB6 := hide (hB5.out.trans hBn)
  replace hA := hide ((hKn a (.inl rfl)).trans hA.out)
  replace hB := hide ((hKn (a + 1) (.inr rfl)).trans hB.out)
  clear hL hFn hBn hKn hF5 hB5
  go_wp2_with (first | ((with_reducible change wpList _ _ _ _ _ _); refine wpList_load_row_on rfl 28 (.tmp 2) rfl a rfl 28 _ _ _ hA.out Try.underlying28 rfl (m6Size _) ?_) | ((with_reducible change wpList _ _ _ _ _ _); refine wpList_load_row_on rfl 28 (.tmp 3) rfl (a + 1) rfl 28 _ _ _ hB.out Try.underlying28 rfl (m6Size _) ?_))
  have hE : learnR 2 100 1 [(⟨1, ⟨2, 1, 0, 0, 0, 0⟩, 3, 0⟩ : Fe), (⟨1, ⟨2, 2, 0, 0, 0, 0⟩, 4, 50⟩ : Fe)] 1 ⟨1, 0, 0, 0, 0, 0⟩ 0 60 = (4, 1, [(⟨1, ⟨2, 1, 0, 0, 0, 0⟩, 3, 0⟩ : Fe), (⟨1, ⟨2, 2, 0, 0, 0, 0⟩, 4, 50⟩ : Fe)]) := by decide
  have hL := hide (FoLearn hF6.out ⟨by decide, by simp [timeOk, M6.wf]⟩ 1 ⟨1, 0, 0, 0, 0, 0⟩ 0 60 (by decide) (by decide) (by decide))
  rw [hE] at hL
  clear hE
  refine hL.out.mono ?_
  rintro _ w7 ⟨rfl, hFn, hBn, hKn⟩
  have hF7 : Hid (Fo t _ w7 t 2 100 1 [(⟨1, ⟨2, 1, 0, 0, 0, 0⟩, 3, 0⟩ : Fe), (⟨1, ⟨2, 2, 0, 0, 0, 0⟩, 4, 50⟩ : Fe)]) := hFn
  have hB7 := hide (hB6.out.trans hBn)
  replace hA := hide ((hKn a (.inl rfl)).trans hA.out)
  replace hB := hide ((hKn (a + 1) (.inr rfl)).trans hB.out)
  clear hL hFn hBn hKn hF6 hB6
  go_wp2_with (first | ((with_reducible change wpList _ _ _ _ _ _); refine wpList_load_row_on rfl 28 (.tmp 2) rfl a rfl 28 _ _ _ hA.out Try.underlying28 rfl (m6Size _) ?_) | ((with_reducible change wpList _ _ _ _ _ _); refine wpList_load_row_on rfl 28 (.tmp 3) rfl (a + 1) rfl 28 _ _ _ hB.out Try.underlying28 rfl (m6Size _) ?_))
  have hE : findR 100 99 1 ⟨2, 1, 0, 0, 0, 0⟩ [(⟨1, ⟨2, 1, 0, 0, 0, 0⟩, 3, 0⟩ : Fe), (⟨1, ⟨2, 2, 0, 0, 0, 0⟩, 4, 50⟩ : Fe)] = (3, 0) := by decide
  have hL := hide (FoFind hF7.out ⟨by decide, by simp [timeOk, M6.wf]⟩ 1 ⟨2, 1, 0, 0, 0, 0⟩ 99 (by decide) (by decide))
  rw [hE] at hL
  clear hE
  refine hL.out.mono ?_
  rintro _ w8 ⟨rfl, hFn, hBn⟩
  have hF8 := hide hFn
  have hB8 := hide (hB7.out.trans (hBn.mono hF7.out.size))
  replace hA := hide (heap_kept hBn hA.out)
  replace hB := hide (heap_kept hBn hB.out)
  clear hL hFn hBn hF7 hB7
  go_wp2_with (first | ((with_reducible change wpList _ _ _ _ _ _); refine wpList_load_row_on rfl 28 (.tmp 2) rfl a rfl 28 _ _ _ hA.out Try.underlying28 rfl (m6Size _) ?_) | ((with_reducible change wpList _ _ _ _ _ _); refine wpList_load_row_on rfl 28 (.tmp 3) rfl (a + 1) rfl 28 _ _ _ hB.out Try.underlying28 rfl (m6Size _) ?_))
  have hE : findR 100 100 1 ⟨2, 1, 0, 0, 0, 0⟩ [(⟨1, ⟨2, 1, 0, 0, 0, 0⟩, 3, 0⟩ : Fe), (⟨1, ⟨2, 2, 0, 0, 0, 0⟩, 4, 50⟩ : Fe)] = (0, 21) := by decide
  have hL := hide (FoFind hF8.out ⟨by decide, by simp [timeOk, M6.wf]⟩ 1 ⟨2, 1, 0, 0, 0, 0⟩ 100 (by decide) (by decide))
  rw [hE] at hL
  clear hE
  refine hL.out.mono ?_
  rintro _ w9 ⟨rfl, hFn, hBn⟩
  have hF9 := hide hFn
  have hB9 := hide (hB8.out.trans (hBn.mono hF8.out.size))
  replace hA := hide (heap_kept hBn hA.out)
  replace hB := hide (heap_kept hBn hB.out)
  clear hL hFn hBn hF8 hB8
  go_wp2_with fail
  refine (FoLost hF9.out).mono ?_
  rintro _ _ ⟨rfl, rfl⟩
  go_wp2_with fail
  refine (FoAll hF9.out ⟨by decide, by simp [timeOk, M6.wf]⟩).mono ?_
  rintro _ w10 ⟨v', rfl, hS, hFn, hBn, -⟩
  obtain ⟨va, vc, rfl⟩ := hS.shape
  have hF10 := hide hFn
  have hB10 := hide (hB9.out.trans (hBn.mono hF9.out.size))
  clear hS hFn hBn hF9 hB9 hA hB
  go_wp2_with fail
  have hL := hide (FoSweep hF10.out ⟨by decide, by simp [timeOk, M6.wf]⟩ 100 (by decide))
  rw [show kept (oldB 100 100) [(⟨1, ⟨2, 1, 0, 0, 0, 0⟩, 3, 0⟩ : Fe), (⟨1, ⟨2, 2, 0, 0, 0, 0⟩, 4, 50⟩ : Fe)] = [(⟨1, ⟨2, 2, 0, 0, 0, 0⟩, 4, 50⟩ : Fe)] by decide] at hL
  refine hL.out.mono ?_
  rintro _ w11 ⟨rfl, hFn, hBn, hKn⟩
  have hF11 := hide hFn
  have hB11 := hide (hB10.out.trans hBn)
  clear hL hFn hBn hKn hF10 hB10
  go_wp2_with fail
  have hL := hide (FoFlush hF11.out ⟨by decide, by simp [timeOk, M6.wf]⟩ 4)
  rw [show kept (atB 4) [(⟨1, ⟨2, 2, 0, 0, 0, 0⟩, 4, 50⟩ : Fe)] = [] by decide] at hL
  refine hL.out.mono ?_
  rintro _ w12 ⟨rfl, hFn, hBn, hKn⟩
  have hB12 := hide (hB11.out.trans hBn)
  clear hL hFn hBn hKn hF11 hB11
  subst htw
  go_wp2
  go_ret
  exact ⟨rfl, hB12.out⟩
end Go.Proofs.Ytiahiakllpjliaa
