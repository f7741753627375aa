/-
  VectorSupersedes, walked. Conditions: those that each theorem names.
-/
import Derived.Test.YtjfjohbibkidhaaVec3
namespace Go.Proofs.Ytjfjohbibkidhaa
open Go.RowKit
set_option linter.unusedVariables false

theorem supB_self (b : Vc) : supB b b = true := by simp [supB]
theorem Sups_at (a b : Vc) (w : World) (x y z : Int) (hx : x = cmpN a b) (S : Bool) (hS : S = supB a b) (E1 E2 : Bool) (hE1 : (a.bridge == b.bridge) = E1) (hE2 : (a.port == b.port) = E2)
    (hcase : (E1 = true ∧ E2 = true ∧ S = true) ∨ ((E1 = false ∨ E2 = false) ∧ (x = -1 ∧ S = true ∨ x = 0 ∧ S = false ∨ x = 1 ∧ S = false))) :
    Calls Try.prog 9 #[.agg a.row, .agg b.row] w fun r w' => r = .returned (.bool true) ∧ Below w.heap.size w w' := by
  have hO := hide (fun w => orders_any w)
  have hS1 := hide (fun w => Sup_any a b w)
  have hS2 := hide (fun w => Sup_any b b w)
  have hC := hide (fun w => Compare_any a b w)
  rw [← hS] at hS1
  rw [← hx] at hC
  rw [supB_self] at hS2
  clear hx hS
  obtain ⟨a0, a1, a2, a3⟩ := a
  obtain ⟨b0, b1, b2, b3⟩ := b
  have hT : Hid (Two ((w.alloc (.cells (Vc.row ⟨a0, a1, a2, a3⟩) 45)).alloc (.cells (Vc.row ⟨b0, b1, b2, b3⟩) 45)) w.heap.size ⟨a0, a1, a2, a3⟩ ⟨b0, b1, b2, b3⟩) := Two.of_heap (heap_alloc2_oldB _ _ _) (heap_alloc2_newB _ _ _)
  have hb0 : Below w.heap.size w ((w.alloc (.cells (Vc.row ⟨a0, a1, a2, a3⟩) 45)).alloc (.cells (Vc.row ⟨b0, b1, b2, b3⟩) 45)) := (below1 _ _).later (below1 _ _)
  go_enter Try.func9, Try.ntmps9
  go_wp2_with fail
  refine (hO.out _).mono ?_
  rintro e w1 ⟨rfl, hb1⟩
  have hT1 := hide (hT.out.below hb1)
  have hb := hide (hb0.later hb1)
  clear hb0 hb1 hT hO
  obtain ⟨c0, c1, c2, c3, d0, d1, d2, d3⟩ := hT1.out
  dsimp only at *
  rcases hcase with ⟨rfl, rfl, rfl⟩ | ⟨hE, hX⟩
  ·
    go_wp2_with fail
    refine (hS1.out _).mono ?_
    rintro e w2 ⟨rfl, hb2⟩
    have hT2 := hide (hT1.out.below hb2)
    have hb2' := hide (hb.out.later hb2)
    clear hT1 hb hb2 c0 c1 c2 c3 d0 d1 d2 d3
    obtain ⟨c0, c1, c2, c3, d0, d1, d2, d3⟩ := hT2.out
    dsimp only at *
    go_wp2_with fail
    refine (hS2.out _).mono ?_
    rintro e w4 ⟨rfl, hb4⟩
    go_wp2
    go_ret
    exact ⟨rfl, hb2'.out.later hb4⟩
  · rcases hX with ⟨rfl, rfl⟩ | ⟨rfl, rfl⟩ | ⟨rfl, rfl⟩ <;> cases E1 <;> cases E2 <;> first | (exfalso; simp at hE; done) | (
      clear hE
      go_wp2_with fail
      refine (hS1.out _).mono ?_
      rintro e w2 ⟨rfl, hb2⟩
      have hT2 := hide (hT1.out.below hb2)
      have hb2' := hide (hb.out.later hb2)
      clear hT1 hb hb2 c0 c1 c2 c3 d0 d1 d2 d3
      obtain ⟨c0, c1, c2, c3, d0, d1, d2, d3⟩ := hT2.out
      dsimp only at *
      go_wp2_with fail
      refine (hC.out _).mono ?_
      rintro e w3 ⟨rfl, hb3⟩
      replace hT2 := hide (hT2.out.below hb3)
      replace hb2' := hide (hb2'.out.later hb3)
      clear hb3 c0 c1 c2 c3 d0 d1 d2 d3
      obtain ⟨c0, c1, c2, c3, d0, d1, d2, d3⟩ := hT2.out
      dsimp only at *
      go_wp2_with fail
      refine (hS2.out _).mono ?_
      rintro e w4 ⟨rfl, hb4⟩
      go_wp2
      go_ret
      exact ⟨rfl, hb2'.out.later hb4⟩)
theorem Sups_walk (a b : Vc) (w : World) : Calls Try.prog 9 #[.agg a.row, .agg b.row] w fun r w' => r = .returned (.bool true) ∧ Below w.heap.size w w' := by
  refine Sups_at a b w (cmpN a b) 0 0 rfl (supB a b) rfl (a.bridge == b.bridge) (a.port == b.port) rfl rfl ?_
  have h := cmpN_neg a b
  have hs : supB a b = (decide (cmpN a b < 0) || ((a.bridge == b.bridge) && (a.port == b.port))) := by simp only [supB, betB, int_beq]
  cases h1 : (a.bridge == b.bridge) <;> cases h2 : (a.port == b.port) <;> rw [h1, h2] at hs <;> rcases h with h | h | h <;> rw [h] at hs ⊢ <;> simp at hs <;> simp [hs]
end Go.Proofs.Ytjfjohbibkidhaa
