/-
  VectorIds, walked. Conditions: those that each theorem names.
-/
import Derived.Test.YtjfjohbibkidhaaVecR
import Derived.Test.YtjfjohbibkidhaaStrC
namespace Go.Proofs.Ytjfjohbibkidhaa
open Go.RowKit
set_option linter.unusedVariables false

theorem bs_six {w : World} {g : Nat} {x0 x1 x2 x3 x4 x5 : Int} {t : TypeId} (h : w.heap[g]? = some (.cells #[.int .u8 x0, .int .u8 x1, .int .u8 x2, .int .u8 x3, .int .u8 x4, .int .u8 x5] t (0, 0))) (hb : Byte [x0, x1, x2, x3, x4, x5]) : Bs w (.slice (some ⟨g, 0, none⟩) 6 6) [x0, x1, x2, x3, x4, x5] := by
  refine Bs.mk_at (l := [x0, x1, x2, x3, x4, x5]) hb (by simp) (by simp [maxLen]) fun i hi => ?_
  rw [cell_of_row _ _ _ _ _ _ h]
  rcases (show i = 0 ∨ i = 1 ∨ i = 2 ∨ i = 3 ∨ i = 4 ∨ i = 5 by simp at hi; omega) with rfl | rfl | rfl | rfl | rfl | rfl <;> rfl
theorem pair_at (p0 p1 : Int) (j : Nat) (hj : j < 2) : ∀ w, (Instr.index 54 (.agg #[.int .i64 p0, .int .i64 p1]) (.int .i64 (j : Nat))).run Try.prog w = .ok (.int .i64 ([p0, p1].getD j 0)) w := by
  intro w
  rcases (show j = 0 ∨ j = 1 by omega) with rfl | rfl
  all_goals simp [Instr.index, run_underlying Try.underlying54, asIntOf, go_sem]
theorem bet_own (x y p : Int) : betB ⟨x, 0, x, p⟩ ⟨y, 0, y, p⟩ = decide (x < y) := by
  rw [Bool.eq_iff_iff, bet_iff, decide_eq_true_eq]
  dsimp only
  omega
/-- The three arguments in memory. -/
structure Ar (w : World) (g : Nat) (p0 p1 a0 a1 a2 a3 a4 a5 b0 b1 b2 b3 b4 b5 : Int) : Prop where
  hp : w.heap[g]? = some (.cells #[.int .i64 p0, .int .i64 p1] 54 (0, 0))
  ha : w.heap[g + 1]? = some (.cells #[.int .u8 a0, .int .u8 a1, .int .u8 a2, .int .u8 a3, .int .u8 a4, .int .u8 a5] 56 (0, 0))
  hb : w.heap[g + 2]? = some (.cells #[.int .u8 b0, .int .u8 b1, .int .u8 b2, .int .u8 b3, .int .u8 b4, .int .u8 b5] 56 (0, 0))
theorem Ar.below {w w' : World} {g : Nat} {p0 p1 a0 a1 a2 a3 a4 a5 b0 b1 b2 b3 b4 b5 : Int} (h : Ar w g p0 p1 a0 a1 a2 a3 a4 a5 b0 b1 b2 b3 b4 b5) (hb : Below w.heap.size w w') : Ar w' g p0 p1 a0 a1 a2 a3 a4 a5 b0 b1 b2 b3 b4 b5 :=
  ⟨heap_kept hb h.hp, heap_kept hb h.ha, heap_kept hb h.hb⟩
theorem Ar.made (w : World) (p0 p1 a0 a1 a2 a3 a4 a5 b0 b1 b2 b3 b4 b5 : Int) : Ar (((w.alloc (.cells #[.int .i64 p0, .int .i64 p1] 54)).alloc (.cells #[.int .u8 a0, .int .u8 a1, .int .u8 a2, .int .u8 a3, .int .u8 a4, .int .u8 a5] 56)).alloc (.cells #[.int .u8 b0, .int .u8 b1, .int .u8 b2, .int .u8 b3, .int .u8 b4, .int .u8 b5] 56)) w.heap.size p0 p1 a0 a1 a2 a3 a4 a5 b0 b1 b2 b3 b4 b5 := by
  have h3 := heap_alloc_new ((w.alloc (.cells #[.int .i64 p0, .int .i64 p1] 54)).alloc (.cells #[.int .u8 a0, .int .u8 a1, .int .u8 a2, .int .u8 a3, .int .u8 a4, .int .u8 a5] 56)) (.cells #[.int .u8 b0, .int .u8 b1, .int .u8 b2, .int .u8 b3, .int .u8 b4, .int .u8 b5] 56)
  rw [World.size_alloc, World.size_alloc] at h3
  exact ⟨heap_kept (below1 _ _) (heap_alloc2_oldB _ _ _), heap_kept (below1 _ _) (heap_alloc2_newB _ _ _), h3⟩
def gd (x y : Bool) : Nat → Array Value
  | 0 => #[.bool false, .bool false]
  | 1 => #[.bool x, .bool false]
  | _ => #[.bool x, .bool y]
theorem macSize7 : (Try.prog.info? 56).map (·.size) = some 6 := by kernel_rfl
set_option maxRecDepth 20000 in
set_option maxHeartbeats 4000000 in
theorem Ids_FF (p0 p1 a0 a1 a2 a3 a4 a5 b0 b1 b2 b3 b4 b5 : Int) (w : World) (hp0 : I64 p0) (hp1 : I64 p1) (hA : Byte [a0, a1, a2, a3, a4, a5]) (hB : Byte [b0, b1, b2, b3, b4, b5]) (hG0 : idB p0 = false) (hG1 : idB p1 = false) :
    Calls Try.prog 10 #[.agg #[.int .i64 p0, .int .i64 p1], .agg #[.int .u8 a0, .int .u8 a1, .int .u8 a2, .int .u8 a3, .int .u8 a4, .int .u8 a5], .agg #[.int .u8 b0, .int .u8 b1, .int .u8 b2, .int .u8 b3, .int .u8 b4, .int .u8 b5]] w fun r w' => r = .returned (.bool true) ∧ Below w.heap.size w w' := by
  have hO := hide (fun w => orders_any w)
  have kA := hide (fun w => Id_bad p0 #[.int .u8 a0, .int .u8 a1, .int .u8 a2, .int .u8 a3, .int .u8 a4, .int .u8 a5] w hp0 hG0)
  have kB := hide (fun w => Id_bad p1 #[.int .u8 b0, .int .u8 b1, .int .u8 b2, .int .u8 b3, .int .u8 b4, .int .u8 b5] w hp1 hG1)
  have hAr := hide (Ar.made w p0 p1 a0 a1 a2 a3 a4 a5 b0 b1 b2 b3 b4 b5)
  have hW0 : Hid (Below w.heap.size w (((w.alloc (.cells #[.int .i64 p0, .int .i64 p1] 54)).alloc (.cells #[.int .u8 a0, .int .u8 a1, .int .u8 a2, .int .u8 a3, .int .u8 a4, .int .u8 a5] 56)).alloc (.cells #[.int .u8 b0, .int .u8 b1, .int .u8 b2, .int .u8 b3, .int .u8 b4, .int .u8 b5] 56))) := ((below1 _ _).later (below1 _ _)).later (below1 _ _)
  have hPr := hide (pair_at p0 p1)
  have hbA := hide hA
  have hbB := hide hB
  have g0 := hide hG0
  have g1 := hide hG1
  clear hA hB hG0 hG1
  go_enter Try.func10, Try.ntmps10
  go_wp2_with fail
  refine (hO.out _).mono ?_
  rintro e w1 ⟨rfl, hb1⟩
  replace hAr := hide (hAr.out.below hb1)
  have hW := hide (hW0.out.later hb1)
  clear hb1 hO hW0
  have cp0 : w1.cell? ⟨w.heap.size, 0, none⟩ = some (.int .i64 p0) := (cell_of_row _ _ _ _ _ _ hAr.out.hp).trans rfl
  have ca0 : w1.cell? ⟨w.heap.size + 1, 0, none⟩ = some (.int .u8 a0) := (cell_of_row _ _ _ _ _ _ hAr.out.ha).trans rfl
  have ca1 : w1.cell? ⟨w.heap.size + 1, 1, none⟩ = some (.int .u8 a1) := (cell_of_row _ _ _ _ _ _ hAr.out.ha).trans rfl
  have ca2 : w1.cell? ⟨w.heap.size + 1, 2, none⟩ = some (.int .u8 a2) := (cell_of_row _ _ _ _ _ _ hAr.out.ha).trans rfl
  have ca3 : w1.cell? ⟨w.heap.size + 1, 3, none⟩ = some (.int .u8 a3) := (cell_of_row _ _ _ _ _ _ hAr.out.ha).trans rfl
  have ca4 : w1.cell? ⟨w.heap.size + 1, 4, none⟩ = some (.int .u8 a4) := (cell_of_row _ _ _ _ _ _ hAr.out.ha).trans rfl
  have ca5 : w1.cell? ⟨w.heap.size + 1, 5, none⟩ = some (.int .u8 a5) := (cell_of_row _ _ _ _ _ _ hAr.out.ha).trans rfl
  go_wp2_with fail
  refine (kA.out _).mono ?_
  rintro e w2 ⟨rfl, hb2⟩
  replace hAr := hide (hAr.out.below hb2)
  replace hW := hide (hW.out.later hb2)
  clear hb2 kA cp0 ca0 ca1 ca2 ca3 ca4 ca5
  have cp1 : w2.cell? ⟨w.heap.size, 1, none⟩ = some (.int .i64 p1) := (cell_of_row _ _ _ _ _ _ hAr.out.hp).trans rfl
  have cb0 : w2.cell? ⟨w.heap.size + 2, 0, none⟩ = some (.int .u8 b0) := (cell_of_row _ _ _ _ _ _ hAr.out.hb).trans rfl
  have cb1 : w2.cell? ⟨w.heap.size + 2, 1, none⟩ = some (.int .u8 b1) := (cell_of_row _ _ _ _ _ _ hAr.out.hb).trans rfl
  have cb2 : w2.cell? ⟨w.heap.size + 2, 2, none⟩ = some (.int .u8 b2) := (cell_of_row _ _ _ _ _ _ hAr.out.hb).trans rfl
  have cb3 : w2.cell? ⟨w.heap.size + 2, 3, none⟩ = some (.int .u8 b3) := (cell_of_row _ _ _ _ _ _ hAr.out.hb).trans rfl
  have cb4 : w2.cell? ⟨w.heap.size + 2, 4, none⟩ = some (.int .u8 b4) := (cell_of_row _ _ _ _ _ _ hAr.out.hb).trans rfl
  have cb5 : w2.cell? ⟨w.heap.size + 2, 5, none⟩ = some (.int .u8 b5) := (cell_of_row _ _ _ _ _ _ hAr.out.hb).trans rfl
  go_wp2_with fail
  refine (kB.out _).mono ?_
  rintro e w3 ⟨rfl, hb3⟩
  replace hAr := hide (hAr.out.below hb3)
  replace hW := hide (hW.out.later hb3)
  clear hb3 kB cp1 cb0 cb1 cb2 cb3 cb4 cb5
  have pc : Hid (∀ W : World, Ar W w.heap.size p0 p1 a0 a1 a2 a3 a4 a5 b0 b1 b2 b3 b4 b5 → W.cell? ⟨w.heap.size, 0, none⟩ = some (.int .i64 p0) ∧ W.cell? ⟨w.heap.size, 1, none⟩ = some (.int .i64 p1)) := fun W h => ⟨(cell_of_row _ _ _ _ _ _ h.hp).trans rfl, (cell_of_row _ _ _ _ _ _ h.hp).trans rfl⟩
  have hlg : w.heap.size + 2 < w3.heap.size := (Array.getElem?_eq_some_iff.1 hAr.out.hb).1
  have hl0 : w.heap.size < w3.heap.size := by omega
  have q0 := (pc.out _ hAr.out).1
  have q1 := (pc.out _ hAr.out).2
  have hG : Hid ((w3.alloc (.cells #[.bool false, .bool false] 59)).heap[w3.heap.size]? = some (.cells #[.bool false, .bool false] 59 (0, 0))) := heap_alloc_new w3 _
  have hB4 : Hid (Below w3.heap.size w3 (w3.alloc (.cells #[.bool false, .bool false] 59))) := below1 _ _
  go_wp2
  generalize w3.alloc (.cells #[.bool false, .bool false] 59) = w4 at *
  clear q0 q1
  go_loopw [35] (fun i wr => ∃ j : Nat, j ≤ 2 ∧ i = .int .i64 j ∧ Hid (wr.heap[w3.heap.size]? = some (.cells (gd false false j) 59 (0, 0))) ∧ Hid (Below w3.heap.size w3 wr)) (fun i _ => 2 - (intOf i).toNat)
  case atStart => exact ⟨0, Nat.zero_le _, rfl, hG, hB4⟩
  case round =>
    obtain ⟨j, hj, rfl, hGr, hBr⟩ := hrel
    clear hG hB4
    rcases (show j = 0 ∨ j = 1 ∨ j = 2 by omega) with rfl | rfl | rfl
    · have cg : wr.cell? ⟨w3.heap.size, 0, none⟩ = some (.bool false) := (cell_of_row _ _ _ _ _ _ hGr.out).trans rfl
      have fz : wr.frozen? ⟨w3.heap.size, 0, none⟩ = false := frozen_of_row _ _ _ _ _ hGr.out
      have hix : ∀ w, (Instr.index 54 (.agg #[.int .i64 p0, .int .i64 p1]) (.int .i64 0)).run Try.prog w = .ok (.int .i64 p0) w := fun w => hPr.out 0 (by decide) w
      have hN : Hid ((wr.setCell ⟨w3.heap.size, 0, none⟩ (.bool false)).heap[w3.heap.size]? = some (.cells (gd false false 1) 59 (0, 0))) := (heap_setCell_same _ _ _ _ _ _ hGr.out).trans rfl
      have hBn : Hid (Below w3.heap.size w3 (wr.setCell ⟨w3.heap.size, 0, none⟩ (.bool false))) := hBr.out.trans ⟨rfl, rfl, rfl, by simp [World.setCell], fun c hc => heap_setCell_other wr ⟨w3.heap.size, 0, none⟩ c _ (show c ≠ w3.heap.size by omega)⟩
      by_cases y1 : 0 ≤ p0
      · by_cases y2 : p0 ≤ 61440
        · have z1 : decide (0 ≤ p0) = true := decide_eq_true y1
          have z2 : decide (p0 ≤ 61440) = true := decide_eq_true y2
          have z3 : (p0 % 4096 == 0) = false := by
            rw [beq_eq_false_iff_ne]
            intro e
            have := g0.out
            rw [idB, priB, decide_eq_true y1, decide_eq_true y2, decide_eq_true e] at this
            cases this
          clear y2
          go_wp2
          go_round
          case rel => exact ⟨1, by omega, by go_num, hN, hBn⟩
          case measure => simp [intOf]
        · have z1 : decide (0 ≤ p0) = true := decide_eq_true y1
          have z2 : decide (p0 ≤ 61440) = false := decide_eq_false y2
          clear y2
          go_wp2
          go_round
          case rel => exact ⟨1, by omega, by go_num, hN, hBn⟩
          case measure => simp [intOf]
      · have z1 : decide (0 ≤ p0) = false := decide_eq_false y1
        clear y1
        go_wp2
        go_round
        case rel => exact ⟨1, by omega, by go_num, hN, hBn⟩
        case measure => simp [intOf]
    · have cg : wr.cell? ⟨w3.heap.size, 1, none⟩ = some (.bool false) := (cell_of_row _ _ _ _ _ _ hGr.out).trans rfl
      have fz : wr.frozen? ⟨w3.heap.size, 1, none⟩ = false := frozen_of_row _ _ _ _ _ hGr.out
      have hix : ∀ w, (Instr.index 54 (.agg #[.int .i64 p0, .int .i64 p1]) (.int .i64 1)).run Try.prog w = .ok (.int .i64 p1) w := fun w => hPr.out 1 (by decide) w
      have hN : Hid ((wr.setCell ⟨w3.heap.size, 1, none⟩ (.bool false)).heap[w3.heap.size]? = some (.cells (gd false false 2) 59 (0, 0))) := (heap_setCell_same _ _ _ _ _ _ hGr.out).trans rfl
      have hBn : Hid (Below w3.heap.size w3 (wr.setCell ⟨w3.heap.size, 1, none⟩ (.bool false))) := hBr.out.trans ⟨rfl, rfl, rfl, by simp [World.setCell], fun c hc => heap_setCell_other wr ⟨w3.heap.size, 1, none⟩ c _ (show c ≠ w3.heap.size by omega)⟩
      by_cases y1 : 0 ≤ p1
      · by_cases y2 : p1 ≤ 61440
        · have z1 : decide (0 ≤ p1) = true := decide_eq_true y1
          have z2 : decide (p1 ≤ 61440) = true := decide_eq_true y2
          have z3 : (p1 % 4096 == 0) = false := by
            rw [beq_eq_false_iff_ne]
            intro e
            have := g1.out
            rw [idB, priB, decide_eq_true y1, decide_eq_true y2, decide_eq_true e] at this
            cases this
          clear y2
          go_wp2
          go_round
          case rel => exact ⟨2, by omega, by go_num, hN, hBn⟩
          case measure => simp [intOf]
        · have z1 : decide (0 ≤ p1) = true := decide_eq_true y1
          have z2 : decide (p1 ≤ 61440) = false := decide_eq_false y2
          clear y2
          go_wp2
          go_round
          case rel => exact ⟨2, by omega, by go_num, hN, hBn⟩
          case measure => simp [intOf]
      · have z1 : decide (0 ≤ p1) = false := decide_eq_false y1
        clear y1
        go_wp2
        go_round
        case rel => exact ⟨2, by omega, by go_num, hN, hBn⟩
        case measure => simp [intOf]
    · have c0 : wr.cell? ⟨w3.heap.size, 0, none⟩ = some (.bool false) := (cell_of_row _ _ _ _ _ _ hGr.out).trans rfl
      have c1 : wr.cell? ⟨w3.heap.size, 1, none⟩ = some (.bool false) := (cell_of_row _ _ _ _ _ _ hGr.out).trans rfl
      have hArr := hide (hAr.out.below hBr.out)
      have q0 := (pc.out _ hArr.out).1
      have q1 := (pc.out _ hArr.out).2
      have hWr := hide (hW.out.later hBr.out)
      clear hGr hBr hAr hW
      cases hpb : portB p0 p1
      · have kP := hide (fun w => PortId_bad p0 p1 w hp0 hpb)
        replace hpb := hide hpb
        go_wp2_with fail
        refine (kP.out _).mono ?_
        rintro e wq ⟨rfl, hq⟩
        subst hq
        by_cases y1 : p0 < 0
        · have z1 : decide (p0 < 0) = true := decide_eq_true y1
          clear y1
          go_wp2
          go_ret
          exact ⟨rfl, hWr.out⟩
        have z1 : decide (p0 < 0) = false := decide_eq_false y1
        have y1' : 0 ≤ p0 := by omega
        by_cases y2 : 240 < p0
        · have z2 : decide (240 < p0) = true := decide_eq_true y2
          clear y2 y1
          go_wp2
          go_ret
          exact ⟨rfl, hWr.out⟩
        have z2 : decide (240 < p0) = false := decide_eq_false y2
        by_cases y3 : p0 % 16 = 0
        · have z3 : (p0 % 16 != 0) = false := by rw [y3]; rfl
          by_cases y4 : p1 < 1
          · have z4 : decide (p1 < 1) = true := decide_eq_true y4
            clear y4 y3 y2 y1
            go_wp2
            go_ret
            exact ⟨rfl, hWr.out⟩
          have z4 : decide (p1 < 1) = false := decide_eq_false y4
          by_cases y5 : 4095 < p1
          · have z5 : decide (4095 < p1) = true := decide_eq_true y5
            clear y5 y4 y3 y2 y1
            go_wp2
            go_ret
            exact ⟨rfl, hWr.out⟩
          exfalso
          have := hpb.out
          rw [portB, priB, decide_eq_true y1', decide_eq_true (show p0 ≤ 240 by omega), decide_eq_true y3, decide_eq_true (show 1 ≤ p1 by omega), decide_eq_true (show p1 ≤ 4095 by omega)] at this
          cases this
        have z3 : (p0 % 16 != 0) = true := by
          rw [bne_iff_ne]
          exact y3
        clear y1 y2 y3
        go_wp2
        go_ret
        exact ⟨rfl, hWr.out⟩
      · have kP := hide (fun w => PortId_ok p0 p1 w hp0 hpb)
        have hpo : 0 ≤ p0 ∧ p0 ≤ 240 ∧ p0 % 16 = 0 ∧ 1 ≤ p1 ∧ p1 ≤ 4095 := by
          simp only [portB, priB, Bool.and_eq_true, decide_eq_true_eq] at hpb
          omega
        obtain ⟨o1, o2, o3, o4, o5⟩ := hpo
        have z1 : decide (p0 < 0) = false := decide_eq_false (by omega)
        have z2 : decide (240 < p0) = false := decide_eq_false (by omega)
        have z3 : (p0 % 16 != 0) = false := by rw [o3]; rfl
        have z4 : decide (p1 < 1) = false := decide_eq_false (by omega)
        have z5 : decide (4095 < p1) = false := decide_eq_false (by omega)
        clear hpb o3
        go_wp2_with fail
        refine (kP.out _).mono ?_
        rintro e wq ⟨rfl, hq⟩
        subst hq
        go_wp2
        go_ret
        exact ⟨rfl, hWr.out⟩
set_option maxRecDepth 20000 in
set_option maxHeartbeats 4000000 in
theorem Ids_TF (p0 p1 a0 a1 a2 a3 a4 a5 b0 b1 b2 b3 b4 b5 : Int) (w : World) (hp0 : I64 p0) (hp1 : I64 p1) (hA : Byte [a0, a1, a2, a3, a4, a5]) (hB : Byte [b0, b1, b2, b3, b4, b5]) (hG0 : idB p0 = true) (hG1 : idB p1 = false) :
    Calls Try.prog 10 #[.agg #[.int .i64 p0, .int .i64 p1], .agg #[.int .u8 a0, .int .u8 a1, .int .u8 a2, .int .u8 a3, .int .u8 a4, .int .u8 a5], .agg #[.int .u8 b0, .int .u8 b1, .int .u8 b2, .int .u8 b3, .int .u8 b4, .int .u8 b5]] w fun r w' => r = .returned (.bool true) ∧ Below w.heap.size w w' := by
  have hO := hide (fun w => orders_any w)
  have kA := hide (fun w => Id_ok p0 a0 a1 a2 a3 a4 a5 w hp0 hG0 hA)
  have kB := hide (fun w => Id_bad p1 #[.int .u8 b0, .int .u8 b1, .int .u8 b2, .int .u8 b3, .int .u8 b4, .int .u8 b5] w hp1 hG1)
  have hAr := hide (Ar.made w p0 p1 a0 a1 a2 a3 a4 a5 b0 b1 b2 b3 b4 b5)
  have hW0 : Hid (Below w.heap.size w (((w.alloc (.cells #[.int .i64 p0, .int .i64 p1] 54)).alloc (.cells #[.int .u8 a0, .int .u8 a1, .int .u8 a2, .int .u8 a3, .int .u8 a4, .int .u8 a5] 56)).alloc (.cells #[.int .u8 b0, .int .u8 b1, .int .u8 b2, .int .u8 b3, .int .u8 b4, .int .u8 b5] 56))) := ((below1 _ _).later (below1 _ _)).later (below1 _ _)
  have hPr := hide (pair_at p0 p1)
  have hbA := hide hA
  have hbB := hide hB
  have g0 := hide hG0
  have g1 := hide hG1
  clear hA hB hG0 hG1
  go_enter Try.func10, Try.ntmps10
  go_wp2_with fail
  refine (hO.out _).mono ?_
  rintro e w1 ⟨rfl, hb1⟩
  replace hAr := hide (hAr.out.below hb1)
  have hW := hide (hW0.out.later hb1)
  clear hb1 hO hW0
  have cp0 : w1.cell? ⟨w.heap.size, 0, none⟩ = some (.int .i64 p0) := (cell_of_row _ _ _ _ _ _ hAr.out.hp).trans rfl
  have ca0 : w1.cell? ⟨w.heap.size + 1, 0, none⟩ = some (.int .u8 a0) := (cell_of_row _ _ _ _ _ _ hAr.out.ha).trans rfl
  have ca1 : w1.cell? ⟨w.heap.size + 1, 1, none⟩ = some (.int .u8 a1) := (cell_of_row _ _ _ _ _ _ hAr.out.ha).trans rfl
  have ca2 : w1.cell? ⟨w.heap.size + 1, 2, none⟩ = some (.int .u8 a2) := (cell_of_row _ _ _ _ _ _ hAr.out.ha).trans rfl
  have ca3 : w1.cell? ⟨w.heap.size + 1, 3, none⟩ = some (.int .u8 a3) := (cell_of_row _ _ _ _ _ _ hAr.out.ha).trans rfl
  have ca4 : w1.cell? ⟨w.heap.size + 1, 4, none⟩ = some (.int .u8 a4) := (cell_of_row _ _ _ _ _ _ hAr.out.ha).trans rfl
  have ca5 : w1.cell? ⟨w.heap.size + 1, 5, none⟩ = some (.int .u8 a5) := (cell_of_row _ _ _ _ _ _ hAr.out.ha).trans rfl
  go_wp2_with fail
  refine (kA.out _).mono ?_
  rintro e w2 ⟨rfl, hb2⟩
  replace hAr := hide (hAr.out.below hb2)
  replace hW := hide (hW.out.later hb2)
  clear hb2 kA cp0 ca0 ca1 ca2 ca3 ca4 ca5
  have cp1 : w2.cell? ⟨w.heap.size, 1, none⟩ = some (.int .i64 p1) := (cell_of_row _ _ _ _ _ _ hAr.out.hp).trans rfl
  have cb0 : w2.cell? ⟨w.heap.size + 2, 0, none⟩ = some (.int .u8 b0) := (cell_of_row _ _ _ _ _ _ hAr.out.hb).trans rfl
  have cb1 : w2.cell? ⟨w.heap.size + 2, 1, none⟩ = some (.int .u8 b1) := (cell_of_row _ _ _ _ _ _ hAr.out.hb).trans rfl
  have cb2 : w2.cell? ⟨w.heap.size + 2, 2, none⟩ = some (.int .u8 b2) := (cell_of_row _ _ _ _ _ _ hAr.out.hb).trans rfl
  have cb3 : w2.cell? ⟨w.heap.size + 2, 3, none⟩ = some (.int .u8 b3) := (cell_of_row _ _ _ _ _ _ hAr.out.hb).trans rfl
  have cb4 : w2.cell? ⟨w.heap.size + 2, 4, none⟩ = some (.int .u8 b4) := (cell_of_row _ _ _ _ _ _ hAr.out.hb).trans rfl
  have cb5 : w2.cell? ⟨w.heap.size + 2, 5, none⟩ = some (.int .u8 b5) := (cell_of_row _ _ _ _ _ _ hAr.out.hb).trans rfl
  go_wp2_with fail
  refine (kB.out _).mono ?_
  rintro e w3 ⟨rfl, hb3⟩
  replace hAr := hide (hAr.out.below hb3)
  replace hW := hide (hW.out.later hb3)
  clear hb3 kB cp1 cb0 cb1 cb2 cb3 cb4 cb5
  have pc : Hid (∀ W : World, Ar W w.heap.size p0 p1 a0 a1 a2 a3 a4 a5 b0 b1 b2 b3 b4 b5 → W.cell? ⟨w.heap.size, 0, none⟩ = some (.int .i64 p0) ∧ W.cell? ⟨w.heap.size, 1, none⟩ = some (.int .i64 p1)) := fun W h => ⟨(cell_of_row _ _ _ _ _ _ h.hp).trans rfl, (cell_of_row _ _ _ _ _ _ h.hp).trans rfl⟩
  have hlg : w.heap.size + 2 < w3.heap.size := (Array.getElem?_eq_some_iff.1 hAr.out.hb).1
  have hl0 : w.heap.size < w3.heap.size := by omega
  have q0 := (pc.out _ hAr.out).1
  have q1 := (pc.out _ hAr.out).2
  have hG : Hid ((w3.alloc (.cells #[.bool false, .bool false] 59)).heap[w3.heap.size]? = some (.cells #[.bool false, .bool false] 59 (0, 0))) := heap_alloc_new w3 _
  have hB4 : Hid (Below w3.heap.size w3 (w3.alloc (.cells #[.bool false, .bool false] 59))) := below1 _ _
  go_wp2
  generalize w3.alloc (.cells #[.bool false, .bool false] 59) = w4 at *
  clear q0 q1
  go_loopw [35] (fun i wr => ∃ j : Nat, j ≤ 2 ∧ i = .int .i64 j ∧ Hid (wr.heap[w3.heap.size]? = some (.cells (gd true false j) 59 (0, 0))) ∧ Hid (Below w3.heap.size w3 wr)) (fun i _ => 2 - (intOf i).toNat)
  case atStart => exact ⟨0, Nat.zero_le _, rfl, hG, hB4⟩
  case round =>
    obtain ⟨j, hj, rfl, hGr, hBr⟩ := hrel
    clear hG hB4
    rcases (show j = 0 ∨ j = 1 ∨ j = 2 by omega) with rfl | rfl | rfl
    · have cg : wr.cell? ⟨w3.heap.size, 0, none⟩ = some (.bool false) := (cell_of_row _ _ _ _ _ _ hGr.out).trans rfl
      have fz : wr.frozen? ⟨w3.heap.size, 0, none⟩ = false := frozen_of_row _ _ _ _ _ hGr.out
      have hix : ∀ w, (Instr.index 54 (.agg #[.int .i64 p0, .int .i64 p1]) (.int .i64 0)).run Try.prog w = .ok (.int .i64 p0) w := fun w => hPr.out 0 (by decide) w
      have hN : Hid ((wr.setCell ⟨w3.heap.size, 0, none⟩ (.bool true)).heap[w3.heap.size]? = some (.cells (gd true false 1) 59 (0, 0))) := (heap_setCell_same _ _ _ _ _ _ hGr.out).trans rfl
      have hBn : Hid (Below w3.heap.size w3 (wr.setCell ⟨w3.heap.size, 0, none⟩ (.bool true))) := hBr.out.trans ⟨rfl, rfl, rfl, by simp [World.setCell], fun c hc => heap_setCell_other wr ⟨w3.heap.size, 0, none⟩ c _ (show c ≠ w3.heap.size by omega)⟩
      have z1 : decide (0 ≤ p0) = true := decide_eq_true (priB_range g0.out).1
      have z2 : decide (p0 ≤ 61440) = true := decide_eq_true (priB_range g0.out).2.1
      have z0 : 0 ≤ p0 := (priB_range g0.out).1
      have z3 : (p0 % 4096 == 0) = true := by rw [beq_iff_eq]; exact (priB_range g0.out).2.2
      go_wp2
      go_round
      case rel => exact ⟨1, by omega, by go_num, hN, hBn⟩
      case measure => simp [intOf]
    · have cg : wr.cell? ⟨w3.heap.size, 1, none⟩ = some (.bool false) := (cell_of_row _ _ _ _ _ _ hGr.out).trans rfl
      have fz : wr.frozen? ⟨w3.heap.size, 1, none⟩ = false := frozen_of_row _ _ _ _ _ hGr.out
      have hix : ∀ w, (Instr.index 54 (.agg #[.int .i64 p0, .int .i64 p1]) (.int .i64 1)).run Try.prog w = .ok (.int .i64 p1) w := fun w => hPr.out 1 (by decide) w
      have hN : Hid ((wr.setCell ⟨w3.heap.size, 1, none⟩ (.bool false)).heap[w3.heap.size]? = some (.cells (gd true false 2) 59 (0, 0))) := (heap_setCell_same _ _ _ _ _ _ hGr.out).trans rfl
      have hBn : Hid (Below w3.heap.size w3 (wr.setCell ⟨w3.heap.size, 1, none⟩ (.bool false))) := hBr.out.trans ⟨rfl, rfl, rfl, by simp [World.setCell], fun c hc => heap_setCell_other wr ⟨w3.heap.size, 1, none⟩ c _ (show c ≠ w3.heap.size by omega)⟩
      by_cases y1 : 0 ≤ p1
      · by_cases y2 : p1 ≤ 61440
        · have z1 : decide (0 ≤ p1) = true := decide_eq_true y1
          have z2 : decide (p1 ≤ 61440) = true := decide_eq_true y2
          have z3 : (p1 % 4096 == 0) = false := by
            rw [beq_eq_false_iff_ne]
            intro e
            have := g1.out
            rw [idB, priB, decide_eq_true y1, decide_eq_true y2, decide_eq_true e] at this
            cases this
          clear y2
          go_wp2
          go_round
          case rel => exact ⟨2, by omega, by go_num, hN, hBn⟩
          case measure => simp [intOf]
        · have z1 : decide (0 ≤ p1) = true := decide_eq_true y1
          have z2 : decide (p1 ≤ 61440) = false := decide_eq_false y2
          clear y2
          go_wp2
          go_round
          case rel => exact ⟨2, by omega, by go_num, hN, hBn⟩
          case measure => simp [intOf]
      · have z1 : decide (0 ≤ p1) = false := decide_eq_false y1
        clear y1
        go_wp2
        go_round
        case rel => exact ⟨2, by omega, by go_num, hN, hBn⟩
        case measure => simp [intOf]
    · have c0 : wr.cell? ⟨w3.heap.size, 0, none⟩ = some (.bool true) := (cell_of_row _ _ _ _ _ _ hGr.out).trans rfl
      have c1 : wr.cell? ⟨w3.heap.size, 1, none⟩ = some (.bool false) := (cell_of_row _ _ _ _ _ _ hGr.out).trans rfl
      have hArr := hide (hAr.out.below hBr.out)
      have q0 := (pc.out _ hArr.out).1
      have q1 := (pc.out _ hArr.out).2
      have hWr := hide (hW.out.later hBr.out)
      clear hGr hBr hAr hW
      cases hpb : portB p0 p1
      · have kP := hide (fun w => PortId_bad p0 p1 w hp0 hpb)
        replace hpb := hide hpb
        go_wp2_with fail
        refine (kP.out _).mono ?_
        rintro e wq ⟨rfl, hq⟩
        subst hq
        by_cases y1 : p0 < 0
        · have z1 : decide (p0 < 0) = true := decide_eq_true y1
          clear y1
          go_wp2
          go_ret
          exact ⟨rfl, hWr.out⟩
        have z1 : decide (p0 < 0) = false := decide_eq_false y1
        have y1' : 0 ≤ p0 := by omega
        by_cases y2 : 240 < p0
        · have z2 : decide (240 < p0) = true := decide_eq_true y2
          clear y2 y1
          go_wp2
          go_ret
          exact ⟨rfl, hWr.out⟩
        have z2 : decide (240 < p0) = false := decide_eq_false y2
        by_cases y3 : p0 % 16 = 0
        · have z3 : (p0 % 16 != 0) = false := by rw [y3]; rfl
          by_cases y4 : p1 < 1
          · have z4 : decide (p1 < 1) = true := decide_eq_true y4
            clear y4 y3 y2 y1
            go_wp2
            go_ret
            exact ⟨rfl, hWr.out⟩
          have z4 : decide (p1 < 1) = false := decide_eq_false y4
          by_cases y5 : 4095 < p1
          · have z5 : decide (4095 < p1) = true := decide_eq_true y5
            clear y5 y4 y3 y2 y1
            go_wp2
            go_ret
            exact ⟨rfl, hWr.out⟩
          exfalso
          have := hpb.out
          rw [portB, priB, decide_eq_true y1', decide_eq_true (show p0 ≤ 240 by omega), decide_eq_true y3, decide_eq_true (show 1 ≤ p1 by omega), decide_eq_true (show p1 ≤ 4095 by omega)] at this
          cases this
        have z3 : (p0 % 16 != 0) = true := by
          rw [bne_iff_ne]
          exact y3
        clear y1 y2 y3
        go_wp2
        go_ret
        exact ⟨rfl, hWr.out⟩
      · have kP := hide (fun w => PortId_ok p0 p1 w hp0 hpb)
        have hpo : 0 ≤ p0 ∧ p0 ≤ 240 ∧ p0 % 16 = 0 ∧ 1 ≤ p1 ∧ p1 ≤ 4095 := by
          simp only [portB, priB, Bool.and_eq_true, decide_eq_true_eq] at hpb
          omega
        obtain ⟨o1, o2, o3, o4, o5⟩ := hpo
        have z1 : decide (p0 < 0) = false := decide_eq_false (by omega)
        have z2 : decide (240 < p0) = false := decide_eq_false (by omega)
        have z3 : (p0 % 16 != 0) = false := by rw [o3]; rfl
        have z4 : decide (p1 < 1) = false := decide_eq_false (by omega)
        have z5 : decide (4095 < p1) = false := decide_eq_false (by omega)
        clear hpb o3
        go_wp2_with fail
        refine (kP.out _).mono ?_
        rintro e wq ⟨rfl, hq⟩
        subst hq
        go_wp2
        go_ret
        exact ⟨rfl, hWr.out⟩
set_option maxRecDepth 20000 in
set_option maxHeartbeats 4000000 in
theorem Ids_FT (p0 p1 a0 a1 a2 a3 a4 a5 b0 b1 b2 b3 b4 b5 : Int) (w : World) (hp0 : I64 p0) (hp1 : I64 p1) (hA : Byte [a0, a1, a2, a3, a4, a5]) (hB : Byte [b0, b1, b2, b3, b4, b5]) (hG0 : idB p0 = false) (hG1 : idB p1 = true) :
    Calls Try.prog 10 #[.agg #[.int .i64 p0, .int .i64 p1], .agg #[.int .u8 a0, .int .u8 a1, .int .u8 a2, .int .u8 a3, .int .u8 a4, .int .u8 a5], .agg #[.int .u8 b0, .int .u8 b1, .int .u8 b2, .int .u8 b3, .int .u8 b4, .int .u8 b5]] w fun r w' => r = .returned (.bool true) ∧ Below w.heap.size w w' := by
  have hO := hide (fun w => orders_any w)
  have kA := hide (fun w => Id_bad p0 #[.int .u8 a0, .int .u8 a1, .int .u8 a2, .int .u8 a3, .int .u8 a4, .int .u8 a5] w hp0 hG0)
  have kB := hide (fun w => Id_ok p1 b0 b1 b2 b3 b4 b5 w hp1 hG1 hB)
  have hAr := hide (Ar.made w p0 p1 a0 a1 a2 a3 a4 a5 b0 b1 b2 b3 b4 b5)
  have hW0 : Hid (Below w.heap.size w (((w.alloc (.cells #[.int .i64 p0, .int .i64 p1] 54)).alloc (.cells #[.int .u8 a0, .int .u8 a1, .int .u8 a2, .int .u8 a3, .int .u8 a4, .int .u8 a5] 56)).alloc (.cells #[.int .u8 b0, .int .u8 b1, .int .u8 b2, .int .u8 b3, .int .u8 b4, .int .u8 b5] 56))) := ((below1 _ _).later (below1 _ _)).later (below1 _ _)
  have hPr := hide (pair_at p0 p1)
  have hbA := hide hA
  have hbB := hide hB
  have g0 := hide hG0
  have g1 := hide hG1
  clear hA hB hG0 hG1
  go_enter Try.func10, Try.ntmps10
  go_wp2_with fail
  refine (hO.out _).mono ?_
  rintro e w1 ⟨rfl, hb1⟩
  replace hAr := hide (hAr.out.below hb1)
  have hW := hide (hW0.out.later hb1)
  clear hb1 hO hW0
  have cp0 : w1.cell? ⟨w.heap.size, 0, none⟩ = some (.int .i64 p0) := (cell_of_row _ _ _ _ _ _ hAr.out.hp).trans rfl
  have ca0 : w1.cell? ⟨w.heap.size + 1, 0, none⟩ = some (.int .u8 a0) := (cell_of_row _ _ _ _ _ _ hAr.out.ha).trans rfl
  have ca1 : w1.cell? ⟨w.heap.size + 1, 1, none⟩ = some (.int .u8 a1) := (cell_of_row _ _ _ _ _ _ hAr.out.ha).trans rfl
  have ca2 : w1.cell? ⟨w.heap.size + 1, 2, none⟩ = some (.int .u8 a2) := (cell_of_row _ _ _ _ _ _ hAr.out.ha).trans rfl
  have ca3 : w1.cell? ⟨w.heap.size + 1, 3, none⟩ = some (.int .u8 a3) := (cell_of_row _ _ _ _ _ _ hAr.out.ha).trans rfl
  have ca4 : w1.cell? ⟨w.heap.size + 1, 4, none⟩ = some (.int .u8 a4) := (cell_of_row _ _ _ _ _ _ hAr.out.ha).trans rfl
  have ca5 : w1.cell? ⟨w.heap.size + 1, 5, none⟩ = some (.int .u8 a5) := (cell_of_row _ _ _ _ _ _ hAr.out.ha).trans rfl
  go_wp2_with fail
  refine (kA.out _).mono ?_
  rintro e w2 ⟨rfl, hb2⟩
  replace hAr := hide (hAr.out.below hb2)
  replace hW := hide (hW.out.later hb2)
  clear hb2 kA cp0 ca0 ca1 ca2 ca3 ca4 ca5
  have cp1 : w2.cell? ⟨w.heap.size, 1, none⟩ = some (.int .i64 p1) := (cell_of_row _ _ _ _ _ _ hAr.out.hp).trans rfl
  have cb0 : w2.cell? ⟨w.heap.size + 2, 0, none⟩ = some (.int .u8 b0) := (cell_of_row _ _ _ _ _ _ hAr.out.hb).trans rfl
  have cb1 : w2.cell? ⟨w.heap.size + 2, 1, none⟩ = some (.int .u8 b1) := (cell_of_row _ _ _ _ _ _ hAr.out.hb).trans rfl
  have cb2 : w2.cell? ⟨w.heap.size + 2, 2, none⟩ = some (.int .u8 b2) := (cell_of_row _ _ _ _ _ _ hAr.out.hb).trans rfl
  have cb3 : w2.cell? ⟨w.heap.size + 2, 3, none⟩ = some (.int .u8 b3) := (cell_of_row _ _ _ _ _ _ hAr.out.hb).trans rfl
  have cb4 : w2.cell? ⟨w.heap.size + 2, 4, none⟩ = some (.int .u8 b4) := (cell_of_row _ _ _ _ _ _ hAr.out.hb).trans rfl
  have cb5 : w2.cell? ⟨w.heap.size + 2, 5, none⟩ = some (.int .u8 b5) := (cell_of_row _ _ _ _ _ _ hAr.out.hb).trans rfl
  go_wp2_with fail
  refine (kB.out _).mono ?_
  rintro e w3 ⟨rfl, hb3⟩
  replace hAr := hide (hAr.out.below hb3)
  replace hW := hide (hW.out.later hb3)
  clear hb3 kB cp1 cb0 cb1 cb2 cb3 cb4 cb5
  have pc : Hid (∀ W : World, Ar W w.heap.size p0 p1 a0 a1 a2 a3 a4 a5 b0 b1 b2 b3 b4 b5 → W.cell? ⟨w.heap.size, 0, none⟩ = some (.int .i64 p0) ∧ W.cell? ⟨w.heap.size, 1, none⟩ = some (.int .i64 p1)) := fun W h => ⟨(cell_of_row _ _ _ _ _ _ h.hp).trans rfl, (cell_of_row _ _ _ _ _ _ h.hp).trans rfl⟩
  have hlg : w.heap.size + 2 < w3.heap.size := (Array.getElem?_eq_some_iff.1 hAr.out.hb).1
  have hl0 : w.heap.size < w3.heap.size := by omega
  have q0 := (pc.out _ hAr.out).1
  have q1 := (pc.out _ hAr.out).2
  have hG : Hid ((w3.alloc (.cells #[.bool false, .bool false] 59)).heap[w3.heap.size]? = some (.cells #[.bool false, .bool false] 59 (0, 0))) := heap_alloc_new w3 _
  have hB4 : Hid (Below w3.heap.size w3 (w3.alloc (.cells #[.bool false, .bool false] 59))) := below1 _ _
  go_wp2
  generalize w3.alloc (.cells #[.bool false, .bool false] 59) = w4 at *
  clear q0 q1
  go_loopw [35] (fun i wr => ∃ j : Nat, j ≤ 2 ∧ i = .int .i64 j ∧ Hid (wr.heap[w3.heap.size]? = some (.cells (gd false true j) 59 (0, 0))) ∧ Hid (Below w3.heap.size w3 wr)) (fun i _ => 2 - (intOf i).toNat)
  case atStart => exact ⟨0, Nat.zero_le _, rfl, hG, hB4⟩
  case round =>
    obtain ⟨j, hj, rfl, hGr, hBr⟩ := hrel
    clear hG hB4
    rcases (show j = 0 ∨ j = 1 ∨ j = 2 by omega) with rfl | rfl | rfl
    · have cg : wr.cell? ⟨w3.heap.size, 0, none⟩ = some (.bool false) := (cell_of_row _ _ _ _ _ _ hGr.out).trans rfl
      have fz : wr.frozen? ⟨w3.heap.size, 0, none⟩ = false := frozen_of_row _ _ _ _ _ hGr.out
      have hix : ∀ w, (Instr.index 54 (.agg #[.int .i64 p0, .int .i64 p1]) (.int .i64 0)).run Try.prog w = .ok (.int .i64 p0) w := fun w => hPr.out 0 (by decide) w
      have hN : Hid ((wr.setCell ⟨w3.heap.size, 0, none⟩ (.bool false)).heap[w3.heap.size]? = some (.cells (gd false true 1) 59 (0, 0))) := (heap_setCell_same _ _ _ _ _ _ hGr.out).trans rfl
      have hBn : Hid (Below w3.heap.size w3 (wr.setCell ⟨w3.heap.size, 0, none⟩ (.bool false))) := hBr.out.trans ⟨rfl, rfl, rfl, by simp [World.setCell], fun c hc => heap_setCell_other wr ⟨w3.heap.size, 0, none⟩ c _ (show c ≠ w3.heap.size by omega)⟩
      by_cases y1 : 0 ≤ p0
      · by_cases y2 : p0 ≤ 61440
        · have z1 : decide (0 ≤ p0) = true := decide_eq_true y1
          have z2 : decide (p0 ≤ 61440) = true := decide_eq_true y2
          have z3 : (p0 % 4096 == 0) = false := by
            rw [beq_eq_false_iff_ne]
            intro e
            have := g0.out
            rw [idB, priB, decide_eq_true y1, decide_eq_true y2, decide_eq_true e] at this
            cases this
          clear y2
          go_wp2
          go_round
          case rel => exact ⟨1, by omega, by go_num, hN, hBn⟩
          case measure => simp [intOf]
        · have z1 : decide (0 ≤ p0) = true := decide_eq_true y1
          have z2 : decide (p0 ≤ 61440) = false := decide_eq_false y2
          clear y2
          go_wp2
          go_round
          case rel => exact ⟨1, by omega, by go_num, hN, hBn⟩
          case measure => simp [intOf]
      · have z1 : decide (0 ≤ p0) = false := decide_eq_false y1
        clear y1
        go_wp2
        go_round
        case rel => exact ⟨1, by omega, by go_num, hN, hBn⟩
        case measure => simp [intOf]
    · have cg : wr.cell? ⟨w3.heap.size, 1, none⟩ = some (.bool false) := (cell_of_row _ _ _ _ _ _ hGr.out).trans rfl
      have fz : wr.frozen? ⟨w3.heap.size, 1, none⟩ = false := frozen_of_row _ _ _ _ _ hGr.out
      have hix : ∀ w, (Instr.index 54 (.agg #[.int .i64 p0, .int .i64 p1]) (.int .i64 1)).run Try.prog w = .ok (.int .i64 p1) w := fun w => hPr.out 1 (by decide) w
      have hN : Hid ((wr.setCell ⟨w3.heap.size, 1, none⟩ (.bool true)).heap[w3.heap.size]? = some (.cells (gd false true 2) 59 (0, 0))) := (heap_setCell_same _ _ _ _ _ _ hGr.out).trans rfl
      have hBn : Hid (Below w3.heap.size w3 (wr.setCell ⟨w3.heap.size, 1, none⟩ (.bool true))) := hBr.out.trans ⟨rfl, rfl, rfl, by simp [World.setCell], fun c hc => heap_setCell_other wr ⟨w3.heap.size, 1, none⟩ c _ (show c ≠ w3.heap.size by omega)⟩
      have z1 : decide (0 ≤ p1) = true := decide_eq_true (priB_range g1.out).1
      have z2 : decide (p1 ≤ 61440) = true := decide_eq_true (priB_range g1.out).2.1
      have z0 : 0 ≤ p1 := (priB_range g1.out).1
      have z3 : (p1 % 4096 == 0) = true := by rw [beq_iff_eq]; exact (priB_range g1.out).2.2
      go_wp2
      go_round
      case rel => exact ⟨2, by omega, by go_num, hN, hBn⟩
      case measure => simp [intOf]
    · have c0 : wr.cell? ⟨w3.heap.size, 0, none⟩ = some (.bool false) := (cell_of_row _ _ _ _ _ _ hGr.out).trans rfl
      have c1 : wr.cell? ⟨w3.heap.size, 1, none⟩ = some (.bool true) := (cell_of_row _ _ _ _ _ _ hGr.out).trans rfl
      have hArr := hide (hAr.out.below hBr.out)
      have q0 := (pc.out _ hArr.out).1
      have q1 := (pc.out _ hArr.out).2
      have hWr := hide (hW.out.later hBr.out)
      clear hGr hBr hAr hW
      cases hpb : portB p0 p1
      · have kP := hide (fun w => PortId_bad p0 p1 w hp0 hpb)
        replace hpb := hide hpb
        go_wp2_with fail
        refine (kP.out _).mono ?_
        rintro e wq ⟨rfl, hq⟩
        subst hq
        by_cases y1 : p0 < 0
        · have z1 : decide (p0 < 0) = true := decide_eq_true y1
          clear y1
          go_wp2
          go_ret
          exact ⟨rfl, hWr.out⟩
        have z1 : decide (p0 < 0) = false := decide_eq_false y1
        have y1' : 0 ≤ p0 := by omega
        by_cases y2 : 240 < p0
        · have z2 : decide (240 < p0) = true := decide_eq_true y2
          clear y2 y1
          go_wp2
          go_ret
          exact ⟨rfl, hWr.out⟩
        have z2 : decide (240 < p0) = false := decide_eq_false y2
        by_cases y3 : p0 % 16 = 0
        · have z3 : (p0 % 16 != 0) = false := by rw [y3]; rfl
          by_cases y4 : p1 < 1
          · have z4 : decide (p1 < 1) = true := decide_eq_true y4
            clear y4 y3 y2 y1
            go_wp2
            go_ret
            exact ⟨rfl, hWr.out⟩
          have z4 : decide (p1 < 1) = false := decide_eq_false y4
          by_cases y5 : 4095 < p1
          · have z5 : decide (4095 < p1) = true := decide_eq_true y5
            clear y5 y4 y3 y2 y1
            go_wp2
            go_ret
            exact ⟨rfl, hWr.out⟩
          exfalso
          have := hpb.out
          rw [portB, priB, decide_eq_true y1', decide_eq_true (show p0 ≤ 240 by omega), decide_eq_true y3, decide_eq_true (show 1 ≤ p1 by omega), decide_eq_true (show p1 ≤ 4095 by omega)] at this
          cases this
        have z3 : (p0 % 16 != 0) = true := by
          rw [bne_iff_ne]
          exact y3
        clear y1 y2 y3
        go_wp2
        go_ret
        exact ⟨rfl, hWr.out⟩
      · have kP := hide (fun w => PortId_ok p0 p1 w hp0 hpb)
        have hpo : 0 ≤ p0 ∧ p0 ≤ 240 ∧ p0 % 16 = 0 ∧ 1 ≤ p1 ∧ p1 ≤ 4095 := by
          simp only [portB, priB, Bool.and_eq_true, decide_eq_true_eq] at hpb
          omega
        obtain ⟨o1, o2, o3, o4, o5⟩ := hpo
        have z1 : decide (p0 < 0) = false := decide_eq_false (by omega)
        have z2 : decide (240 < p0) = false := decide_eq_false (by omega)
        have z3 : (p0 % 16 != 0) = false := by rw [o3]; rfl
        have z4 : decide (p1 < 1) = false := decide_eq_false (by omega)
        have z5 : decide (4095 < p1) = false := decide_eq_false (by omega)
        clear hpb o3
        go_wp2_with fail
        refine (kP.out _).mono ?_
        rintro e wq ⟨rfl, hq⟩
        subst hq
        go_wp2
        go_ret
        exact ⟨rfl, hWr.out⟩
set_option maxRecDepth 20000 in
set_option maxHeartbeats 4000000 in
theorem Ids_LT (p0 p1 a0 a1 a2 a3 a4 a5 b0 b1 b2 b3 b4 b5 : Int) (w : World) (hp0 : I64 p0) (hp1 : I64 p1) (hA : Byte [a0, a1, a2, a3, a4, a5]) (hB : Byte [b0, b1, b2, b3, b4, b5]) (hG0 : idB p0 = true) (hG1 : idB p1 = true) (hlt : p0 < p1) :
    Calls Try.prog 10 #[.agg #[.int .i64 p0, .int .i64 p1], .agg #[.int .u8 a0, .int .u8 a1, .int .u8 a2, .int .u8 a3, .int .u8 a4, .int .u8 a5], .agg #[.int .u8 b0, .int .u8 b1, .int .u8 b2, .int .u8 b3, .int .u8 b4, .int .u8 b5]] w fun r w' => r = .returned (.bool true) ∧ Below w.heap.size w w' := by
  have hO := hide (fun w => orders_any w)
  have kA := hide (fun w => Id_ok p0 a0 a1 a2 a3 a4 a5 w hp0 hG0 hA)
  have kB := hide (fun w => Id_ok p1 b0 b1 b2 b3 b4 b5 w hp1 hG1 hB)
  have hAr := hide (Ar.made w p0 p1 a0 a1 a2 a3 a4 a5 b0 b1 b2 b3 b4 b5)
  have hW0 : Hid (Below w.heap.size w (((w.alloc (.cells #[.int .i64 p0, .int .i64 p1] 54)).alloc (.cells #[.int .u8 a0, .int .u8 a1, .int .u8 a2, .int .u8 a3, .int .u8 a4, .int .u8 a5] 56)).alloc (.cells #[.int .u8 b0, .int .u8 b1, .int .u8 b2, .int .u8 b3, .int .u8 b4, .int .u8 b5] 56))) := ((below1 _ _).later (below1 _ _)).later (below1 _ _)
  have hPr := hide (pair_at p0 p1)
  have nA := hide (num_bound [a0, a1, a2, a3, a4, a5] hA)
  have nB := hide (num_bound [b0, b1, b2, b3, b4, b5] hB)
  have hLs := less_num [a0, a1, a2, a3, a4, a5] [b0, b1, b2, b3, b4, b5] hA hB rfl
  have hbA := hide hA
  have hbB := hide hB
  have g0 := hide hG0
  have g1 := hide hG1
  clear hA hB hG0 hG1
  obtain ⟨x, hx⟩ : ∃ x, x = p0 * 281474976710656 + num [a0, a1, a2, a3, a4, a5] := ⟨_, rfl⟩
  obtain ⟨y, hy⟩ : ∃ y, y = p1 * 281474976710656 + num [b0, b1, b2, b3, b4, b5] := ⟨_, rfl⟩
  rw [← hx] at kA
  rw [← hy] at kB
  have r0 := priB_range g0.out
  have r1 := priB_range g1.out
  have e48 : (256 : Int) ^ 6 = 281474976710656 := by decide
  have n1 := nA.out
  have n2 := nB.out
  simp only [List.length_cons, List.length_nil, Nat.zero_add, e48] at n1 n2
  have hux : Hid (U64 x) := by show 0 ≤ x ∧ x ≤ 18446744073709551615; rw [hx]; omega
  have zx : decide (x < y) = true := decide_eq_true (by rw [hx, hy]; omega)
  have zl : decide (p0 < p1) = true := decide_eq_true hlt
  have ze : (p0 == p1) = false := by rw [beq_eq_false_iff_ne]; omega
  clear r0 r1 e48 n1 n2 nA nB hLs hlt
  replace hx := hide hx
  replace hy := hide hy
  go_enter Try.func10, Try.ntmps10
  go_wp2_with fail
  refine (hO.out _).mono ?_
  rintro e w1 ⟨rfl, hb1⟩
  replace hAr := hide (hAr.out.below hb1)
  have hW := hide (hW0.out.later hb1)
  clear hb1 hO hW0
  have cp0 : w1.cell? ⟨w.heap.size, 0, none⟩ = some (.int .i64 p0) := (cell_of_row _ _ _ _ _ _ hAr.out.hp).trans rfl
  have ca0 : w1.cell? ⟨w.heap.size + 1, 0, none⟩ = some (.int .u8 a0) := (cell_of_row _ _ _ _ _ _ hAr.out.ha).trans rfl
  have ca1 : w1.cell? ⟨w.heap.size + 1, 1, none⟩ = some (.int .u8 a1) := (cell_of_row _ _ _ _ _ _ hAr.out.ha).trans rfl
  have ca2 : w1.cell? ⟨w.heap.size + 1, 2, none⟩ = some (.int .u8 a2) := (cell_of_row _ _ _ _ _ _ hAr.out.ha).trans rfl
  have ca3 : w1.cell? ⟨w.heap.size + 1, 3, none⟩ = some (.int .u8 a3) := (cell_of_row _ _ _ _ _ _ hAr.out.ha).trans rfl
  have ca4 : w1.cell? ⟨w.heap.size + 1, 4, none⟩ = some (.int .u8 a4) := (cell_of_row _ _ _ _ _ _ hAr.out.ha).trans rfl
  have ca5 : w1.cell? ⟨w.heap.size + 1, 5, none⟩ = some (.int .u8 a5) := (cell_of_row _ _ _ _ _ _ hAr.out.ha).trans rfl
  go_wp2_with fail
  refine (kA.out _).mono ?_
  rintro e w2 ⟨rfl, hb2⟩
  replace hAr := hide (hAr.out.below hb2)
  replace hW := hide (hW.out.later hb2)
  clear hb2 kA cp0 ca0 ca1 ca2 ca3 ca4 ca5
  have cp1 : w2.cell? ⟨w.heap.size, 1, none⟩ = some (.int .i64 p1) := (cell_of_row _ _ _ _ _ _ hAr.out.hp).trans rfl
  have cb0 : w2.cell? ⟨w.heap.size + 2, 0, none⟩ = some (.int .u8 b0) := (cell_of_row _ _ _ _ _ _ hAr.out.hb).trans rfl
  have cb1 : w2.cell? ⟨w.heap.size + 2, 1, none⟩ = some (.int .u8 b1) := (cell_of_row _ _ _ _ _ _ hAr.out.hb).trans rfl
  have cb2 : w2.cell? ⟨w.heap.size + 2, 2, none⟩ = some (.int .u8 b2) := (cell_of_row _ _ _ _ _ _ hAr.out.hb).trans rfl
  have cb3 : w2.cell? ⟨w.heap.size + 2, 3, none⟩ = some (.int .u8 b3) := (cell_of_row _ _ _ _ _ _ hAr.out.hb).trans rfl
  have cb4 : w2.cell? ⟨w.heap.size + 2, 4, none⟩ = some (.int .u8 b4) := (cell_of_row _ _ _ _ _ _ hAr.out.hb).trans rfl
  have cb5 : w2.cell? ⟨w.heap.size + 2, 5, none⟩ = some (.int .u8 b5) := (cell_of_row _ _ _ _ _ _ hAr.out.hb).trans rfl
  go_wp2_with fail
  refine (kB.out _).mono ?_
  rintro e w3 ⟨rfl, hb3⟩
  replace hAr := hide (hAr.out.below hb3)
  replace hW := hide (hW.out.later hb3)
  clear hb3 kB cp1 cb0 cb1 cb2 cb3 cb4 cb5
  have pc : Hid (∀ W : World, Ar W w.heap.size p0 p1 a0 a1 a2 a3 a4 a5 b0 b1 b2 b3 b4 b5 → W.cell? ⟨w.heap.size, 0, none⟩ = some (.int .i64 p0) ∧ W.cell? ⟨w.heap.size, 1, none⟩ = some (.int .i64 p1)) := fun W h => ⟨(cell_of_row _ _ _ _ _ _ h.hp).trans rfl, (cell_of_row _ _ _ _ _ _ h.hp).trans rfl⟩
  have hlg : w.heap.size + 2 < w3.heap.size := (Array.getElem?_eq_some_iff.1 hAr.out.hb).1
  have hl0 : w.heap.size < w3.heap.size := by omega
  have q0 := (pc.out _ hAr.out).1
  have q1 := (pc.out _ hAr.out).2
  have hG : Hid ((w3.alloc (.cells #[.bool false, .bool false] 59)).heap[w3.heap.size]? = some (.cells #[.bool false, .bool false] 59 (0, 0))) := heap_alloc_new w3 _
  have hB4 : Hid (Below w3.heap.size w3 (w3.alloc (.cells #[.bool false, .bool false] 59))) := below1 _ _
  go_wp2
  generalize w3.alloc (.cells #[.bool false, .bool false] 59) = w4 at *
  clear q0 q1
  go_loopw [35] (fun i wr => ∃ j : Nat, j ≤ 2 ∧ i = .int .i64 j ∧ Hid (wr.heap[w3.heap.size]? = some (.cells (gd true true j) 59 (0, 0))) ∧ Hid (Below w3.heap.size w3 wr)) (fun i _ => 2 - (intOf i).toNat)
  case atStart => exact ⟨0, Nat.zero_le _, rfl, hG, hB4⟩
  case round =>
    obtain ⟨j, hj, rfl, hGr, hBr⟩ := hrel
    clear hG hB4
    rcases (show j = 0 ∨ j = 1 ∨ j = 2 by omega) with rfl | rfl | rfl
    · have cg : wr.cell? ⟨w3.heap.size, 0, none⟩ = some (.bool false) := (cell_of_row _ _ _ _ _ _ hGr.out).trans rfl
      have fz : wr.frozen? ⟨w3.heap.size, 0, none⟩ = false := frozen_of_row _ _ _ _ _ hGr.out
      have hix : ∀ w, (Instr.index 54 (.agg #[.int .i64 p0, .int .i64 p1]) (.int .i64 0)).run Try.prog w = .ok (.int .i64 p0) w := fun w => hPr.out 0 (by decide) w
      have hN : Hid ((wr.setCell ⟨w3.heap.size, 0, none⟩ (.bool true)).heap[w3.heap.size]? = some (.cells (gd true true 1) 59 (0, 0))) := (heap_setCell_same _ _ _ _ _ _ hGr.out).trans rfl
      have hBn : Hid (Below w3.heap.size w3 (wr.setCell ⟨w3.heap.size, 0, none⟩ (.bool true))) := hBr.out.trans ⟨rfl, rfl, rfl, by simp [World.setCell], fun c hc => heap_setCell_other wr ⟨w3.heap.size, 0, none⟩ c _ (show c ≠ w3.heap.size by omega)⟩
      have z1 : decide (0 ≤ p0) = true := decide_eq_true (priB_range g0.out).1
      have z2 : decide (p0 ≤ 61440) = true := decide_eq_true (priB_range g0.out).2.1
      have z0 : 0 ≤ p0 := (priB_range g0.out).1
      have z3 : (p0 % 4096 == 0) = true := by rw [beq_iff_eq]; exact (priB_range g0.out).2.2
      go_wp2
      go_round
      case rel => exact ⟨1, by omega, by go_num, hN, hBn⟩
      case measure => simp [intOf]
    · have cg : wr.cell? ⟨w3.heap.size, 1, none⟩ = some (.bool false) := (cell_of_row _ _ _ _ _ _ hGr.out).trans rfl
      have fz : wr.frozen? ⟨w3.heap.size, 1, none⟩ = false := frozen_of_row _ _ _ _ _ hGr.out
      have hix : ∀ w, (Instr.index 54 (.agg #[.int .i64 p0, .int .i64 p1]) (.int .i64 1)).run Try.prog w = .ok (.int .i64 p1) w := fun w => hPr.out 1 (by decide) w
      have hN : Hid ((wr.setCell ⟨w3.heap.size, 1, none⟩ (.bool true)).heap[w3.heap.size]? = some (.cells (gd true true 2) 59 (0, 0))) := (heap_setCell_same _ _ _ _ _ _ hGr.out).trans rfl
      have hBn : Hid (Below w3.heap.size w3 (wr.setCell ⟨w3.heap.size, 1, none⟩ (.bool true))) := hBr.out.trans ⟨rfl, rfl, rfl, by simp [World.setCell], fun c hc => heap_setCell_other wr ⟨w3.heap.size, 1, none⟩ c _ (show c ≠ w3.heap.size by omega)⟩
      have z1 : decide (0 ≤ p1) = true := decide_eq_true (priB_range g1.out).1
      have z2 : decide (p1 ≤ 61440) = true := decide_eq_true (priB_range g1.out).2.1
      have z0 : 0 ≤ p1 := (priB_range g1.out).1
      have z3 : (p1 % 4096 == 0) = true := by rw [beq_iff_eq]; exact (priB_range g1.out).2.2
      go_wp2
      go_round
      case rel => exact ⟨2, by omega, by go_num, hN, hBn⟩
      case measure => simp [intOf]
    · have c0 : wr.cell? ⟨w3.heap.size, 0, none⟩ = some (.bool true) := (cell_of_row _ _ _ _ _ _ hGr.out).trans rfl
      have c1 : wr.cell? ⟨w3.heap.size, 1, none⟩ = some (.bool true) := (cell_of_row _ _ _ _ _ _ hGr.out).trans rfl
      have hArr := hide (hAr.out.below hBr.out)
      have q0 := (pc.out _ hArr.out).1
      have q1 := (pc.out _ hArr.out).2
      have hWr := hide (hW.out.later hBr.out)
      clear hGr hBr hAr hW
      have kO1 := hide (fun w => Own_any x 1 w)
      have kO2 := hide (fun w => Own_any y 1 w)
      have kBt := hide (fun w => Better_any ⟨x, 0, x, 1⟩ ⟨y, 0, y, 1⟩ w)
      rw [bet_own, zx] at kBt
      have kO7 := hide (fun w => Own_any x 7 w)
      have hnq := vec_neq ⟨x, 0, x, 7⟩ ⟨x, 0, x, 7⟩ ⟨hux.out, show U64 0 by unfold U64; omega, hux.out, show I64 7 by unfold I64; omega⟩ ⟨hux.out, show U64 0 by unfold U64; omega, hux.out, show I64 7 by unfold I64; omega⟩
      rw [decide_eq_true rfl] at hnq
      have hgd := eqGuard_vec
      go_wp2_with fail
      refine (kO1.out _).mono ?_
      rintro e wa1 ⟨rfl, hb5⟩
      replace hArr := hide (hArr.out.below hb5)
      replace hWr := hide (hWr.out.later hb5)
      clear q0 q1 hb5 c0 c1
      have q0 := (pc.out _ hArr.out).1
      have q1 := (pc.out _ hArr.out).2
      go_wp2_with fail
      refine (kO2.out _).mono ?_
      rintro e wa2 ⟨rfl, hb5⟩
      replace hArr := hide (hArr.out.below hb5)
      replace hWr := hide (hWr.out.later hb5)
      clear q0 q1 hb5
      have q0 := (pc.out _ hArr.out).1
      have q1 := (pc.out _ hArr.out).2
      go_wp2_with fail
      refine (kBt.out _).mono ?_
      rintro e wa3 ⟨rfl, hb5⟩
      replace hArr := hide (hArr.out.below hb5)
      replace hWr := hide (hWr.out.later hb5)
      clear q0 q1 hb5
      have q0 := (pc.out _ hArr.out).1
      have q1 := (pc.out _ hArr.out).2
      go_wp2_with fail
      refine (kO7.out _).mono ?_
      rintro e wa4 ⟨rfl, hb5⟩
      replace hArr := hide (hArr.out.below hb5)
      replace hWr := hide (hWr.out.later hb5)
      clear q0 q1 hb5
      have q0 := (pc.out _ hArr.out).1
      have q1 := (pc.out _ hArr.out).2
      clear kO1 kO2 kBt kO7
      cases hpb : portB p0 p1
      · have kP := hide (fun w => PortId_bad p0 p1 w hp0 hpb)
        replace hpb := hide hpb
        go_wp2_with fail
        refine (kP.out _).mono ?_
        rintro e wq ⟨rfl, hq⟩
        subst hq
        by_cases y1 : p0 < 0
        · have z1 : decide (p0 < 0) = true := decide_eq_true y1
          clear y1
          go_wp2
          go_ret
          exact ⟨rfl, hWr.out⟩
        have z1 : decide (p0 < 0) = false := decide_eq_false y1
        have y1' : 0 ≤ p0 := by omega
        by_cases y2 : 240 < p0
        · have z2 : decide (240 < p0) = true := decide_eq_true y2
          clear y2 y1
          go_wp2
          go_ret
          exact ⟨rfl, hWr.out⟩
        have z2 : decide (240 < p0) = false := decide_eq_false y2
        by_cases y3 : p0 % 16 = 0
        · have z3 : (p0 % 16 != 0) = false := by rw [y3]; rfl
          by_cases y4 : p1 < 1
          · have z4 : decide (p1 < 1) = true := decide_eq_true y4
            clear y4 y3 y2 y1
            go_wp2
            go_ret
            exact ⟨rfl, hWr.out⟩
          have z4 : decide (p1 < 1) = false := decide_eq_false y4
          by_cases y5 : 4095 < p1
          · have z5 : decide (4095 < p1) = true := decide_eq_true y5
            clear y5 y4 y3 y2 y1
            go_wp2
            go_ret
            exact ⟨rfl, hWr.out⟩
          exfalso
          have := hpb.out
          rw [portB, priB, decide_eq_true y1', decide_eq_true (show p0 ≤ 240 by omega), decide_eq_true y3, decide_eq_true (show 1 ≤ p1 by omega), decide_eq_true (show p1 ≤ 4095 by omega)] at this
          cases this
        have z3 : (p0 % 16 != 0) = true := by
          rw [bne_iff_ne]
          exact y3
        clear y1 y2 y3
        go_wp2
        go_ret
        exact ⟨rfl, hWr.out⟩
      · have kP := hide (fun w => PortId_ok p0 p1 w hp0 hpb)
        have hpo : 0 ≤ p0 ∧ p0 ≤ 240 ∧ p0 % 16 = 0 ∧ 1 ≤ p1 ∧ p1 ≤ 4095 := by
          simp only [portB, priB, Bool.and_eq_true, decide_eq_true_eq] at hpb
          omega
        obtain ⟨o1, o2, o3, o4, o5⟩ := hpo
        have z1 : decide (p0 < 0) = false := decide_eq_false (by omega)
        have z2 : decide (240 < p0) = false := decide_eq_false (by omega)
        have z3 : (p0 % 16 != 0) = false := by rw [o3]; rfl
        have z4 : decide (p1 < 1) = false := decide_eq_false (by omega)
        have z5 : decide (4095 < p1) = false := decide_eq_false (by omega)
        clear hpb o3
        go_wp2_with fail
        refine (kP.out _).mono ?_
        rintro e wq ⟨rfl, hq⟩
        subst hq
        go_wp2
        go_ret
        exact ⟨rfl, hWr.out⟩
set_option maxRecDepth 20000 in
set_option maxHeartbeats 4000000 in
theorem Ids_GT (p0 p1 a0 a1 a2 a3 a4 a5 b0 b1 b2 b3 b4 b5 : Int) (w : World) (hp0 : I64 p0) (hp1 : I64 p1) (hA : Byte [a0, a1, a2, a3, a4, a5]) (hB : Byte [b0, b1, b2, b3, b4, b5]) (hG0 : idB p0 = true) (hG1 : idB p1 = true) (hlt : p1 < p0) :
    Calls Try.prog 10 #[.agg #[.int .i64 p0, .int .i64 p1], .agg #[.int .u8 a0, .int .u8 a1, .int .u8 a2, .int .u8 a3, .int .u8 a4, .int .u8 a5], .agg #[.int .u8 b0, .int .u8 b1, .int .u8 b2, .int .u8 b3, .int .u8 b4, .int .u8 b5]] w fun r w' => r = .returned (.bool true) ∧ Below w.heap.size w w' := by
  have hO := hide (fun w => orders_any w)
  have kA := hide (fun w => Id_ok p0 a0 a1 a2 a3 a4 a5 w hp0 hG0 hA)
  have kB := hide (fun w => Id_ok p1 b0 b1 b2 b3 b4 b5 w hp1 hG1 hB)
  have hAr := hide (Ar.made w p0 p1 a0 a1 a2 a3 a4 a5 b0 b1 b2 b3 b4 b5)
  have hW0 : Hid (Below w.heap.size w (((w.alloc (.cells #[.int .i64 p0, .int .i64 p1] 54)).alloc (.cells #[.int .u8 a0, .int .u8 a1, .int .u8 a2, .int .u8 a3, .int .u8 a4, .int .u8 a5] 56)).alloc (.cells #[.int .u8 b0, .int .u8 b1, .int .u8 b2, .int .u8 b3, .int .u8 b4, .int .u8 b5] 56))) := ((below1 _ _).later (below1 _ _)).later (below1 _ _)
  have hPr := hide (pair_at p0 p1)
  have nA := hide (num_bound [a0, a1, a2, a3, a4, a5] hA)
  have nB := hide (num_bound [b0, b1, b2, b3, b4, b5] hB)
  have hLs := less_num [a0, a1, a2, a3, a4, a5] [b0, b1, b2, b3, b4, b5] hA hB rfl
  have hbA := hide hA
  have hbB := hide hB
  have g0 := hide hG0
  have g1 := hide hG1
  clear hA hB hG0 hG1
  obtain ⟨x, hx⟩ : ∃ x, x = p0 * 281474976710656 + num [a0, a1, a2, a3, a4, a5] := ⟨_, rfl⟩
  obtain ⟨y, hy⟩ : ∃ y, y = p1 * 281474976710656 + num [b0, b1, b2, b3, b4, b5] := ⟨_, rfl⟩
  rw [← hx] at kA
  rw [← hy] at kB
  have r0 := priB_range g0.out
  have r1 := priB_range g1.out
  have e48 : (256 : Int) ^ 6 = 281474976710656 := by decide
  have n1 := nA.out
  have n2 := nB.out
  simp only [List.length_cons, List.length_nil, Nat.zero_add, e48] at n1 n2
  have hux : Hid (U64 x) := by show 0 ≤ x ∧ x ≤ 18446744073709551615; rw [hx]; omega
  have zx : decide (x < y) = false := decide_eq_false (by rw [hx, hy]; omega)
  have zl : decide (p0 < p1) = false := decide_eq_false (by omega)
  have ze : (p0 == p1) = false := by rw [beq_eq_false_iff_ne]; omega
  clear r0 r1 e48 n1 n2 nA nB hLs hlt
  replace hx := hide hx
  replace hy := hide hy
  go_enter Try.func10, Try.ntmps10
  go_wp2_with fail
  refine (hO.out _).mono ?_
  rintro e w1 ⟨rfl, hb1⟩
  replace hAr := hide (hAr.out.below hb1)
  have hW := hide (hW0.out.later hb1)
  clear hb1 hO hW0
  have cp0 : w1.cell? ⟨w.heap.size, 0, none⟩ = some (.int .i64 p0) := (cell_of_row _ _ _ _ _ _ hAr.out.hp).trans rfl
  have ca0 : w1.cell? ⟨w.heap.size + 1, 0, none⟩ = some (.int .u8 a0) := (cell_of_row _ _ _ _ _ _ hAr.out.ha).trans rfl
  have ca1 : w1.cell? ⟨w.heap.size + 1, 1, none⟩ = some (.int .u8 a1) := (cell_of_row _ _ _ _ _ _ hAr.out.ha).trans rfl
  have ca2 : w1.cell? ⟨w.heap.size + 1, 2, none⟩ = some (.int .u8 a2) := (cell_of_row _ _ _ _ _ _ hAr.out.ha).trans rfl
  have ca3 : w1.cell? ⟨w.heap.size + 1, 3, none⟩ = some (.int .u8 a3) := (cell_of_row _ _ _ _ _ _ hAr.out.ha).trans rfl
  have ca4 : w1.cell? ⟨w.heap.size + 1, 4, none⟩ = some (.int .u8 a4) := (cell_of_row _ _ _ _ _ _ hAr.out.ha).trans rfl
  have ca5 : w1.cell? ⟨w.heap.size + 1, 5, none⟩ = some (.int .u8 a5) := (cell_of_row _ _ _ _ _ _ hAr.out.ha).trans rfl
  go_wp2_with fail
  refine (kA.out _).mono ?_
  rintro e w2 ⟨rfl, hb2⟩
  replace hAr := hide (hAr.out.below hb2)
  replace hW := hide (hW.out.later hb2)
  clear hb2 kA cp0 ca0 ca1 ca2 ca3 ca4 ca5
  have cp1 : w2.cell? ⟨w.heap.size, 1, none⟩ = some (.int .i64 p1) := (cell_of_row _ _ _ _ _ _ hAr.out.hp).trans rfl
  have cb0 : w2.cell? ⟨w.heap.size + 2, 0, none⟩ = some (.int .u8 b0) := (cell_of_row _ _ _ _ _ _ hAr.out.hb).trans rfl
  have cb1 : w2.cell? ⟨w.heap.size + 2, 1, none⟩ = some (.int .u8 b1) := (cell_of_row _ _ _ _ _ _ hAr.out.hb).trans rfl
  have cb2 : w2.cell? ⟨w.heap.size + 2, 2, none⟩ = some (.int .u8 b2) := (cell_of_row _ _ _ _ _ _ hAr.out.hb).trans rfl
  have cb3 : w2.cell? ⟨w.heap.size + 2, 3, none⟩ = some (.int .u8 b3) := (cell_of_row _ _ _ _ _ _ hAr.out.hb).trans rfl
  have cb4 : w2.cell? ⟨w.heap.size + 2, 4, none⟩ = some (.int .u8 b4) := (cell_of_row _ _ _ _ _ _ hAr.out.hb).trans rfl
  have cb5 : w2.cell? ⟨w.heap.size + 2, 5, none⟩ = some (.int .u8 b5) := (cell_of_row _ _ _ _ _ _ hAr.out.hb).trans rfl
  go_wp2_with fail
  refine (kB.out _).mono ?_
  rintro e w3 ⟨rfl, hb3⟩
  replace hAr := hide (hAr.out.below hb3)
  replace hW := hide (hW.out.later hb3)
  clear hb3 kB cp1 cb0 cb1 cb2 cb3 cb4 cb5
  have pc : Hid (∀ W : World, Ar W w.heap.size p0 p1 a0 a1 a2 a3 a4 a5 b0 b1 b2 b3 b4 b5 → W.cell? ⟨w.heap.size, 0, none⟩ = some (.int .i64 p0) ∧ W.cell? ⟨w.heap.size, 1, none⟩ = some (.int .i64 p1)) := fun W h => ⟨(cell_of_row _ _ _ _ _ _ h.hp).trans rfl, (cell_of_row _ _ _ _ _ _ h.hp).trans rfl⟩
  have hlg : w.heap.size + 2 < w3.heap.size := (Array.getElem?_eq_some_iff.1 hAr.out.hb).1
  have hl0 : w.heap.size < w3.heap.size := by omega
  have q0 := (pc.out _ hAr.out).1
  have q1 := (pc.out _ hAr.out).2
  have hG : Hid ((w3.alloc (.cells #[.bool false, .bool false] 59)).heap[w3.heap.size]? = some (.cells #[.bool false, .bool false] 59 (0, 0))) := heap_alloc_new w3 _
  have hB4 : Hid (Below w3.heap.size w3 (w3.alloc (.cells #[.bool false, .bool false] 59))) := below1 _ _
  go_wp2
  generalize w3.alloc (.cells #[.bool false, .bool false] 59) = w4 at *
  clear q0 q1
  go_loopw [35] (fun i wr => ∃ j : Nat, j ≤ 2 ∧ i = .int .i64 j ∧ Hid (wr.heap[w3.heap.size]? = some (.cells (gd true true j) 59 (0, 0))) ∧ Hid (Below w3.heap.size w3 wr)) (fun i _ => 2 - (intOf i).toNat)
  case atStart => exact ⟨0, Nat.zero_le _, rfl, hG, hB4⟩
  case round =>
    obtain ⟨j, hj, rfl, hGr, hBr⟩ := hrel
    clear hG hB4
    rcases (show j = 0 ∨ j = 1 ∨ j = 2 by omega) with rfl | rfl | rfl
    · have cg : wr.cell? ⟨w3.heap.size, 0, none⟩ = some (.bool false) := (cell_of_row _ _ _ _ _ _ hGr.out).trans rfl
      have fz : wr.frozen? ⟨w3.heap.size, 0, none⟩ = false := frozen_of_row _ _ _ _ _ hGr.out
      have hix : ∀ w, (Instr.index 54 (.agg #[.int .i64 p0, .int .i64 p1]) (.int .i64 0)).run Try.prog w = .ok (.int .i64 p0) w := fun w => hPr.out 0 (by decide) w
      have hN : Hid ((wr.setCell ⟨w3.heap.size, 0, none⟩ (.bool true)).heap[w3.heap.size]? = some (.cells (gd true true 1) 59 (0, 0))) := (heap_setCell_same _ _ _ _ _ _ hGr.out).trans rfl
      have hBn : Hid (Below w3.heap.size w3 (wr.setCell ⟨w3.heap.size, 0, none⟩ (.bool true))) := hBr.out.trans ⟨rfl, rfl, rfl, by simp [World.setCell], fun c hc => heap_setCell_other wr ⟨w3.heap.size, 0, none⟩ c _ (show c ≠ w3.heap.size by omega)⟩
      have z1 : decide (0 ≤ p0) = true := decide_eq_true (priB_range g0.out).1
      have z2 : decide (p0 ≤ 61440) = true := decide_eq_true (priB_range g0.out).2.1
      have z0 : 0 ≤ p0 := (priB_range g0.out).1
      have z3 : (p0 % 4096 == 0) = true := by rw [beq_iff_eq]; exact (priB_range g0.out).2.2
      go_wp2
      go_round
      case rel => exact ⟨1, by omega, by go_num, hN, hBn⟩
      case measure => simp [intOf]
    · have cg : wr.cell? ⟨w3.heap.size, 1, none⟩ = some (.bool false) := (cell_of_row _ _ _ _ _ _ hGr.out).trans rfl
      have fz : wr.frozen? ⟨w3.heap.size, 1, none⟩ = false := frozen_of_row _ _ _ _ _ hGr.out
      have hix : ∀ w, (Instr.index 54 (.agg #[.int .i64 p0, .int .i64 p1]) (.int .i64 1)).run Try.prog w = .ok (.int .i64 p1) w := fun w => hPr.out 1 (by decide) w
      have hN : Hid ((wr.setCell ⟨w3.heap.size, 1, none⟩ (.bool true)).heap[w3.heap.size]? = some (.cells (gd true true 2) 59 (0, 0))) := (heap_setCell_same _ _ _ _ _ _ hGr.out).trans rfl
      have hBn : Hid (Below w3.heap.size w3 (wr.setCell ⟨w3.heap.size, 1, none⟩ (.bool true))) := hBr.out.trans ⟨rfl, rfl, rfl, by simp [World.setCell], fun c hc => heap_setCell_other wr ⟨w3.heap.size, 1, none⟩ c _ (show c ≠ w3.heap.size by omega)⟩
      have z1 : decide (0 ≤ p1) = true := decide_eq_true (priB_range g1.out).1
      have z2 : decide (p1 ≤ 61440) = true := decide_eq_true (priB_range g1.out).2.1
      have z0 : 0 ≤ p1 := (priB_range g1.out).1
      have z3 : (p1 % 4096 == 0) = true := by rw [beq_iff_eq]; exact (priB_range g1.out).2.2
      go_wp2
      go_round
      case rel => exact ⟨2, by omega, by go_num, hN, hBn⟩
      case measure => simp [intOf]
    · have c0 : wr.cell? ⟨w3.heap.size, 0, none⟩ = some (.bool true) := (cell_of_row _ _ _ _ _ _ hGr.out).trans rfl
      have c1 : wr.cell? ⟨w3.heap.size, 1, none⟩ = some (.bool true) := (cell_of_row _ _ _ _ _ _ hGr.out).trans rfl
      have hArr := hide (hAr.out.below hBr.out)
      have q0 := (pc.out _ hArr.out).1
      have q1 := (pc.out _ hArr.out).2
      have hWr := hide (hW.out.later hBr.out)
      clear hGr hBr hAr hW
      have kO1 := hide (fun w => Own_any x 1 w)
      have kO2 := hide (fun w => Own_any y 1 w)
      have kBt := hide (fun w => Better_any ⟨x, 0, x, 1⟩ ⟨y, 0, y, 1⟩ w)
      rw [bet_own, zx] at kBt
      have kO7 := hide (fun w => Own_any x 7 w)
      have hnq := vec_neq ⟨x, 0, x, 7⟩ ⟨x, 0, x, 7⟩ ⟨hux.out, show U64 0 by unfold U64; omega, hux.out, show I64 7 by unfold I64; omega⟩ ⟨hux.out, show U64 0 by unfold U64; omega, hux.out, show I64 7 by unfold I64; omega⟩
      rw [decide_eq_true rfl] at hnq
      have hgd := eqGuard_vec
      go_wp2_with fail
      refine (kO1.out _).mono ?_
      rintro e wa1 ⟨rfl, hb5⟩
      replace hArr := hide (hArr.out.below hb5)
      replace hWr := hide (hWr.out.later hb5)
      clear q0 q1 hb5 c0 c1
      have q0 := (pc.out _ hArr.out).1
      have q1 := (pc.out _ hArr.out).2
      go_wp2_with fail
      refine (kO2.out _).mono ?_
      rintro e wa2 ⟨rfl, hb5⟩
      replace hArr := hide (hArr.out.below hb5)
      replace hWr := hide (hWr.out.later hb5)
      clear q0 q1 hb5
      have q0 := (pc.out _ hArr.out).1
      have q1 := (pc.out _ hArr.out).2
      go_wp2_with fail
      refine (kBt.out _).mono ?_
      rintro e wa3 ⟨rfl, hb5⟩
      replace hArr := hide (hArr.out.below hb5)
      replace hWr := hide (hWr.out.later hb5)
      clear q0 q1 hb5
      have q0 := (pc.out _ hArr.out).1
      have q1 := (pc.out _ hArr.out).2
      go_wp2_with fail
      refine (kO7.out _).mono ?_
      rintro e wa4 ⟨rfl, hb5⟩
      replace hArr := hide (hArr.out.below hb5)
      replace hWr := hide (hWr.out.later hb5)
      clear q0 q1 hb5
      have q0 := (pc.out _ hArr.out).1
      have q1 := (pc.out _ hArr.out).2
      clear kO1 kO2 kBt kO7
      cases hpb : portB p0 p1
      · have kP := hide (fun w => PortId_bad p0 p1 w hp0 hpb)
        replace hpb := hide hpb
        go_wp2_with fail
        refine (kP.out _).mono ?_
        rintro e wq ⟨rfl, hq⟩
        subst hq
        by_cases y1 : p0 < 0
        · have z1 : decide (p0 < 0) = true := decide_eq_true y1
          clear y1
          go_wp2
          go_ret
          exact ⟨rfl, hWr.out⟩
        have z1 : decide (p0 < 0) = false := decide_eq_false y1
        have y1' : 0 ≤ p0 := by omega
        by_cases y2 : 240 < p0
        · have z2 : decide (240 < p0) = true := decide_eq_true y2
          clear y2 y1
          go_wp2
          go_ret
          exact ⟨rfl, hWr.out⟩
        have z2 : decide (240 < p0) = false := decide_eq_false y2
        by_cases y3 : p0 % 16 = 0
        · have z3 : (p0 % 16 != 0) = false := by rw [y3]; rfl
          by_cases y4 : p1 < 1
          · have z4 : decide (p1 < 1) = true := decide_eq_true y4
            clear y4 y3 y2 y1
            go_wp2
            go_ret
            exact ⟨rfl, hWr.out⟩
          have z4 : decide (p1 < 1) = false := decide_eq_false y4
          by_cases y5 : 4095 < p1
          · have z5 : decide (4095 < p1) = true := decide_eq_true y5
            clear y5 y4 y3 y2 y1
            go_wp2
            go_ret
            exact ⟨rfl, hWr.out⟩
          exfalso
          have := hpb.out
          rw [portB, priB, decide_eq_true y1', decide_eq_true (show p0 ≤ 240 by omega), decide_eq_true y3, decide_eq_true (show 1 ≤ p1 by omega), decide_eq_true (show p1 ≤ 4095 by omega)] at this
          cases this
        have z3 : (p0 % 16 != 0) = true := by
          rw [bne_iff_ne]
          exact y3
        clear y1 y2 y3
        go_wp2
        go_ret
        exact ⟨rfl, hWr.out⟩
      · have kP := hide (fun w => PortId_ok p0 p1 w hp0 hpb)
        have hpo : 0 ≤ p0 ∧ p0 ≤ 240 ∧ p0 % 16 = 0 ∧ 1 ≤ p1 ∧ p1 ≤ 4095 := by
          simp only [portB, priB, Bool.and_eq_true, decide_eq_true_eq] at hpb
          omega
        obtain ⟨o1, o2, o3, o4, o5⟩ := hpo
        have z1 : decide (p0 < 0) = false := decide_eq_false (by omega)
        have z2 : decide (240 < p0) = false := decide_eq_false (by omega)
        have z3 : (p0 % 16 != 0) = false := by rw [o3]; rfl
        have z4 : decide (p1 < 1) = false := decide_eq_false (by omega)
        have z5 : decide (4095 < p1) = false := decide_eq_false (by omega)
        clear hpb o3
        go_wp2_with fail
        refine (kP.out _).mono ?_
        rintro e wq ⟨rfl, hq⟩
        subst hq
        go_wp2
        go_ret
        exact ⟨rfl, hWr.out⟩
set_option maxRecDepth 20000 in
set_option maxHeartbeats 4000000 in
theorem Ids_EQT (p0 p1 a0 a1 a2 a3 a4 a5 b0 b1 b2 b3 b4 b5 : Int) (w : World) (hp0 : I64 p0) (hp1 : I64 p1) (hA : Byte [a0, a1, a2, a3, a4, a5]) (hB : Byte [b0, b1, b2, b3, b4, b5]) (hG0 : idB p0 = true) (hG1 : idB p1 = true) (heq : p0 = p1) (hll : decide (num [a0, a1, a2, a3, a4, a5] < num [b0, b1, b2, b3, b4, b5]) = true) :
    Calls Try.prog 10 #[.agg #[.int .i64 p0, .int .i64 p1], .agg #[.int .u8 a0, .int .u8 a1, .int .u8 a2, .int .u8 a3, .int .u8 a4, .int .u8 a5], .agg #[.int .u8 b0, .int .u8 b1, .int .u8 b2, .int .u8 b3, .int .u8 b4, .int .u8 b5]] w fun r w' => r = .returned (.bool true) ∧ Below w.heap.size w w' := by
  have hO := hide (fun w => orders_any w)
  have kA := hide (fun w => Id_ok p0 a0 a1 a2 a3 a4 a5 w hp0 hG0 hA)
  have kB := hide (fun w => Id_ok p1 b0 b1 b2 b3 b4 b5 w hp1 hG1 hB)
  have hAr := hide (Ar.made w p0 p1 a0 a1 a2 a3 a4 a5 b0 b1 b2 b3 b4 b5)
  have hW0 : Hid (Below w.heap.size w (((w.alloc (.cells #[.int .i64 p0, .int .i64 p1] 54)).alloc (.cells #[.int .u8 a0, .int .u8 a1, .int .u8 a2, .int .u8 a3, .int .u8 a4, .int .u8 a5] 56)).alloc (.cells #[.int .u8 b0, .int .u8 b1, .int .u8 b2, .int .u8 b3, .int .u8 b4, .int .u8 b5] 56))) := ((below1 _ _).later (below1 _ _)).later (below1 _ _)
  have hPr := hide (pair_at p0 p1)
  have nA := hide (num_bound [a0, a1, a2, a3, a4, a5] hA)
  have nB := hide (num_bound [b0, b1, b2, b3, b4, b5] hB)
  have hLs := less_num [a0, a1, a2, a3, a4, a5] [b0, b1, b2, b3, b4, b5] hA hB rfl
  have hbA := hide hA
  have hbB := hide hB
  have g0 := hide hG0
  have g1 := hide hG1
  clear hA hB hG0 hG1
  obtain ⟨x, hx⟩ : ∃ x, x = p0 * 281474976710656 + num [a0, a1, a2, a3, a4, a5] := ⟨_, rfl⟩
  obtain ⟨y, hy⟩ : ∃ y, y = p1 * 281474976710656 + num [b0, b1, b2, b3, b4, b5] := ⟨_, rfl⟩
  rw [← hx] at kA
  rw [← hy] at kB
  have r0 := priB_range g0.out
  have r1 := priB_range g1.out
  have e48 : (256 : Int) ^ 6 = 281474976710656 := by decide
  have n1 := nA.out
  have n2 := nB.out
  simp only [List.length_cons, List.length_nil, Nat.zero_add, e48] at n1 n2
  have hux : Hid (U64 x) := by show 0 ≤ x ∧ x ≤ 18446744073709551615; rw [hx]; omega
  have zx : decide (x < y) = true := by
    rw [← hll, hx, hy, heq]
    congr 1
    apply propext
    omega
  have zl : decide (p0 < p1) = false := decide_eq_false (by omega)
  have ze : (p0 == p1) = true := by rw [beq_iff_eq]; exact heq
  rw [hll] at hLs
  replace hLs := hide hLs
  clear r0 r1 e48 n1 n2 nA nB hll heq
  replace hx := hide hx
  replace hy := hide hy
  go_enter Try.func10, Try.ntmps10
  go_wp2_with fail
  refine (hO.out _).mono ?_
  rintro e w1 ⟨rfl, hb1⟩
  replace hAr := hide (hAr.out.below hb1)
  have hW := hide (hW0.out.later hb1)
  clear hb1 hO hW0
  have cp0 : w1.cell? ⟨w.heap.size, 0, none⟩ = some (.int .i64 p0) := (cell_of_row _ _ _ _ _ _ hAr.out.hp).trans rfl
  have ca0 : w1.cell? ⟨w.heap.size + 1, 0, none⟩ = some (.int .u8 a0) := (cell_of_row _ _ _ _ _ _ hAr.out.ha).trans rfl
  have ca1 : w1.cell? ⟨w.heap.size + 1, 1, none⟩ = some (.int .u8 a1) := (cell_of_row _ _ _ _ _ _ hAr.out.ha).trans rfl
  have ca2 : w1.cell? ⟨w.heap.size + 1, 2, none⟩ = some (.int .u8 a2) := (cell_of_row _ _ _ _ _ _ hAr.out.ha).trans rfl
  have ca3 : w1.cell? ⟨w.heap.size + 1, 3, none⟩ = some (.int .u8 a3) := (cell_of_row _ _ _ _ _ _ hAr.out.ha).trans rfl
  have ca4 : w1.cell? ⟨w.heap.size + 1, 4, none⟩ = some (.int .u8 a4) := (cell_of_row _ _ _ _ _ _ hAr.out.ha).trans rfl
  have ca5 : w1.cell? ⟨w.heap.size + 1, 5, none⟩ = some (.int .u8 a5) := (cell_of_row _ _ _ _ _ _ hAr.out.ha).trans rfl
  go_wp2_with fail
  refine (kA.out _).mono ?_
  rintro e w2 ⟨rfl, hb2⟩
  replace hAr := hide (hAr.out.below hb2)
  replace hW := hide (hW.out.later hb2)
  clear hb2 kA cp0 ca0 ca1 ca2 ca3 ca4 ca5
  have cp1 : w2.cell? ⟨w.heap.size, 1, none⟩ = some (.int .i64 p1) := (cell_of_row _ _ _ _ _ _ hAr.out.hp).trans rfl
  have cb0 : w2.cell? ⟨w.heap.size + 2, 0, none⟩ = some (.int .u8 b0) := (cell_of_row _ _ _ _ _ _ hAr.out.hb).trans rfl
  have cb1 : w2.cell? ⟨w.heap.size + 2, 1, none⟩ = some (.int .u8 b1) := (cell_of_row _ _ _ _ _ _ hAr.out.hb).trans rfl
  have cb2 : w2.cell? ⟨w.heap.size + 2, 2, none⟩ = some (.int .u8 b2) := (cell_of_row _ _ _ _ _ _ hAr.out.hb).trans rfl
  have cb3 : w2.cell? ⟨w.heap.size + 2, 3, none⟩ = some (.int .u8 b3) := (cell_of_row _ _ _ _ _ _ hAr.out.hb).trans rfl
  have cb4 : w2.cell? ⟨w.heap.size + 2, 4, none⟩ = some (.int .u8 b4) := (cell_of_row _ _ _ _ _ _ hAr.out.hb).trans rfl
  have cb5 : w2.cell? ⟨w.heap.size + 2, 5, none⟩ = some (.int .u8 b5) := (cell_of_row _ _ _ _ _ _ hAr.out.hb).trans rfl
  go_wp2_with fail
  refine (kB.out _).mono ?_
  rintro e w3 ⟨rfl, hb3⟩
  replace hAr := hide (hAr.out.below hb3)
  replace hW := hide (hW.out.later hb3)
  clear hb3 kB cp1 cb0 cb1 cb2 cb3 cb4 cb5
  have pc : Hid (∀ W : World, Ar W w.heap.size p0 p1 a0 a1 a2 a3 a4 a5 b0 b1 b2 b3 b4 b5 → W.cell? ⟨w.heap.size, 0, none⟩ = some (.int .i64 p0) ∧ W.cell? ⟨w.heap.size, 1, none⟩ = some (.int .i64 p1)) := fun W h => ⟨(cell_of_row _ _ _ _ _ _ h.hp).trans rfl, (cell_of_row _ _ _ _ _ _ h.hp).trans rfl⟩
  have hlg : w.heap.size + 2 < w3.heap.size := (Array.getElem?_eq_some_iff.1 hAr.out.hb).1
  have hl0 : w.heap.size < w3.heap.size := by omega
  have q0 := (pc.out _ hAr.out).1
  have q1 := (pc.out _ hAr.out).2
  have hG : Hid ((w3.alloc (.cells #[.bool false, .bool false] 59)).heap[w3.heap.size]? = some (.cells #[.bool false, .bool false] 59 (0, 0))) := heap_alloc_new w3 _
  have hB4 : Hid (Below w3.heap.size w3 (w3.alloc (.cells #[.bool false, .bool false] 59))) := below1 _ _
  go_wp2
  generalize w3.alloc (.cells #[.bool false, .bool false] 59) = w4 at *
  clear q0 q1
  go_loopw [35] (fun i wr => ∃ j : Nat, j ≤ 2 ∧ i = .int .i64 j ∧ Hid (wr.heap[w3.heap.size]? = some (.cells (gd true true j) 59 (0, 0))) ∧ Hid (Below w3.heap.size w3 wr)) (fun i _ => 2 - (intOf i).toNat)
  case atStart => exact ⟨0, Nat.zero_le _, rfl, hG, hB4⟩
  case round =>
    obtain ⟨j, hj, rfl, hGr, hBr⟩ := hrel
    clear hG hB4
    rcases (show j = 0 ∨ j = 1 ∨ j = 2 by omega) with rfl | rfl | rfl
    · have cg : wr.cell? ⟨w3.heap.size, 0, none⟩ = some (.bool false) := (cell_of_row _ _ _ _ _ _ hGr.out).trans rfl
      have fz : wr.frozen? ⟨w3.heap.size, 0, none⟩ = false := frozen_of_row _ _ _ _ _ hGr.out
      have hix : ∀ w, (Instr.index 54 (.agg #[.int .i64 p0, .int .i64 p1]) (.int .i64 0)).run Try.prog w = .ok (.int .i64 p0) w := fun w => hPr.out 0 (by decide) w
      have hN : Hid ((wr.setCell ⟨w3.heap.size, 0, none⟩ (.bool true)).heap[w3.heap.size]? = some (.cells (gd true true 1) 59 (0, 0))) := (heap_setCell_same _ _ _ _ _ _ hGr.out).trans rfl
      have hBn : Hid (Below w3.heap.size w3 (wr.setCell ⟨w3.heap.size, 0, none⟩ (.bool true))) := hBr.out.trans ⟨rfl, rfl, rfl, by simp [World.setCell], fun c hc => heap_setCell_other wr ⟨w3.heap.size, 0, none⟩ c _ (show c ≠ w3.heap.size by omega)⟩
      have z1 : decide (0 ≤ p0) = true := decide_eq_true (priB_range g0.out).1
      have z2 : decide (p0 ≤ 61440) = true := decide_eq_true (priB_range g0.out).2.1
      have z0 : 0 ≤ p0 := (priB_range g0.out).1
      have z3 : (p0 % 4096 == 0) = true := by rw [beq_iff_eq]; exact (priB_range g0.out).2.2
      go_wp2
      go_round
      case rel => exact ⟨1, by omega, by go_num, hN, hBn⟩
      case measure => simp [intOf]
    · have cg : wr.cell? ⟨w3.heap.size, 1, none⟩ = some (.bool false) := (cell_of_row _ _ _ _ _ _ hGr.out).trans rfl
      have fz : wr.frozen? ⟨w3.heap.size, 1, none⟩ = false := frozen_of_row _ _ _ _ _ hGr.out
      have hix : ∀ w, (Instr.index 54 (.agg #[.int .i64 p0, .int .i64 p1]) (.int .i64 1)).run Try.prog w = .ok (.int .i64 p1) w := fun w => hPr.out 1 (by decide) w
      have hN : Hid ((wr.setCell ⟨w3.heap.size, 1, none⟩ (.bool true)).heap[w3.heap.size]? = some (.cells (gd true true 2) 59 (0, 0))) := (heap_setCell_same _ _ _ _ _ _ hGr.out).trans rfl
      have hBn : Hid (Below w3.heap.size w3 (wr.setCell ⟨w3.heap.size, 1, none⟩ (.bool true))) := hBr.out.trans ⟨rfl, rfl, rfl, by simp [World.setCell], fun c hc => heap_setCell_other wr ⟨w3.heap.size, 1, none⟩ c _ (show c ≠ w3.heap.size by omega)⟩
      have z1 : decide (0 ≤ p1) = true := decide_eq_true (priB_range g1.out).1
      have z2 : decide (p1 ≤ 61440) = true := decide_eq_true (priB_range g1.out).2.1
      have z0 : 0 ≤ p1 := (priB_range g1.out).1
      have z3 : (p1 % 4096 == 0) = true := by rw [beq_iff_eq]; exact (priB_range g1.out).2.2
      go_wp2
      go_round
      case rel => exact ⟨2, by omega, by go_num, hN, hBn⟩
      case measure => simp [intOf]
    · have c0 : wr.cell? ⟨w3.heap.size, 0, none⟩ = some (.bool true) := (cell_of_row _ _ _ _ _ _ hGr.out).trans rfl
      have c1 : wr.cell? ⟨w3.heap.size, 1, none⟩ = some (.bool true) := (cell_of_row _ _ _ _ _ _ hGr.out).trans rfl
      have hArr := hide (hAr.out.below hBr.out)
      have q0 := (pc.out _ hArr.out).1
      have q1 := (pc.out _ hArr.out).2
      have hWr := hide (hW.out.later hBr.out)
      clear hGr hBr hAr hW
      have kO1 := hide (fun w => Own_any x 1 w)
      have kO2 := hide (fun w => Own_any y 1 w)
      have kBt := hide (fun w => Better_any ⟨x, 0, x, 1⟩ ⟨y, 0, y, 1⟩ w)
      rw [bet_own, zx] at kBt
      have kO7 := hide (fun w => Own_any x 7 w)
      have hnq := vec_neq ⟨x, 0, x, 7⟩ ⟨x, 0, x, 7⟩ ⟨hux.out, show U64 0 by unfold U64; omega, hux.out, show I64 7 by unfold I64; omega⟩ ⟨hux.out, show U64 0 by unfold U64; omega, hux.out, show I64 7 by unfold I64; omega⟩
      rw [decide_eq_true rfl] at hnq
      have hgd := eqGuard_vec
      go_wp2_with fail
      have hsA : Bs wr.drew (.slice (some ⟨w.heap.size + 1, 0, none⟩) 6 6) [a0, a1, a2, a3, a4, a5] := (bs_six hArr.out.ha hbA.out).below (below_drewN (Below.refl _ _) 1)
      have hsB : Bs wr.drew (.slice (some ⟨w.heap.size + 2, 0, none⟩) 6 6) [b0, b1, b2, b3, b4, b5] := (bs_six hArr.out.hb hbB.out).below (below_drewN (Below.refl _ _) 1)
      have vA := conv_str (P := Try.prog) 60 9 5 Try.underlying60 Try.underlying5 Try.underlying9 hsA
      have vB := conv_str (P := Try.prog) 60 9 5 Try.underlying60 Try.underlying5 Try.underlying9 hsB
      have hbl : Op.bytesLess (bstr [a0, a1, a2, a3, a4, a5]).toList (bstr [b0, b1, b2, b3, b4, b5]).toList = true := by
        rw [ByteArray.toList_eq, ByteArray.toList_eq]
        exact hLs.out
      generalize bstr [a0, a1, a2, a3, a4, a5] = sA at *
      generalize bstr [b0, b1, b2, b3, b4, b5] = sB at *
      clear hsA hsB
      refine wp_region_noPanic ?_
      refine wp_region_held_drew (S := fun W => (convert 60 9 (.slice (some ⟨w.heap.size + 1, 0, none⟩) 6 6)).run Try.prog W = .ok (.string sA) W ∧ (convert 60 9 (.slice (some ⟨w.heap.size + 2, 0, none⟩) 6 6)).run Try.prog W = .ok (.string sB) W ∧ (convert 60 9 (.slice (some ⟨w.heap.size + 1 + 1, 0, none⟩) 6 6)).run Try.prog W = .ok (.string sB) W) (by kernel_rfl) ⟨vA, vB, vB⟩ (fun hHeld => ?_)
      refine wpAnyH_take (i := 0) (oi := { dst := some 93, op := Op.slice 56 (Operand.tmp 4) none none none, type := 60, pos := "law.go:113", after := #[], guard := none }) (v := ?v1) rfl (by kernel_rfl) (by kernel_rfl) (by kernel_rfl) (fun _ _ _ h => h) (Or.inl ⟨by rfl, ?y1⟩) (by assumption) ?r1
      case y1 => (intro w hSw; (try dsimp only at hSw); (try (go_split_ands)); go_simp; try with_reducible rfl)
      try simp only [Act.put, List.setIfInBounds_toArray, List.set_cons_zero, List.set_cons_succ]
      refine wpAnyH_take (i := 1) (oi := { dst := some 94, op := Op.convert 60 9 (Operand.tmp 93), type := 9, pos := "law.go:113", after := #[{ on := 0, ground := Ground.data }], guard := none }) (v := ?v2) rfl (by kernel_rfl) (by kernel_rfl) (by kernel_rfl) (fun _ _ _ h => h) (Or.inl ⟨by rfl, ?y2⟩) (by assumption) ?r2
      case y2 => (intro w hSw; (try dsimp only at hSw); (try (go_split_ands)); go_simp; try with_reducible rfl)
      try simp only [Act.put, List.setIfInBounds_toArray, List.set_cons_zero, List.set_cons_succ]
      refine wpAnyH_take (i := 2) (oi := { dst := some 95, op := Op.slice 56 (Operand.tmp 5) none none none, type := 60, pos := "law.go:113", after := #[], guard := none }) (v := ?v3) rfl (by kernel_rfl) (by kernel_rfl) (by kernel_rfl) (fun _ _ _ h => h) (Or.inl ⟨by rfl, ?y3⟩) (by assumption) ?r3
      case y3 => (intro w hSw; (try dsimp only at hSw); (try (go_split_ands)); go_simp; try with_reducible rfl)
      try simp only [Act.put, List.setIfInBounds_toArray, List.set_cons_zero, List.set_cons_succ]
      refine wpAnyH_take (i := 3) (oi := { dst := some 96, op := Op.convert 60 9 (Operand.tmp 95), type := 9, pos := "law.go:113", after := #[{ on := 2, ground := Ground.data }], guard := none }) (v := ?v4) rfl (by kernel_rfl) (by kernel_rfl) (by kernel_rfl) (fun _ _ _ h => h) (Or.inl ⟨by rfl, ?y4⟩) (by assumption) ?r4
      case y4 => (intro w hSw; (try dsimp only at hSw); (try (go_split_ands)); go_simp; try with_reducible rfl)
      try simp only [Act.put, List.setIfInBounds_toArray, List.set_cons_zero, List.set_cons_succ]
      refine wpAnyH_take (i := 4) (oi := { dst := some 97, op := Op.binOp BinOp.lss 9 (Operand.tmp 94) (Operand.tmp 96) 9, type := 4, pos := "law.go:113", after := #[{ on := 1, ground := Ground.data }, { on := 3, ground := Ground.data }], guard := none }) (v := ?v5) rfl (by kernel_rfl) (by kernel_rfl) (by kernel_rfl) (fun _ _ _ h => h) (Or.inl ⟨by rfl, ?y5⟩) (by assumption) ?r5
      case y5 => (intro w hSw; (try dsimp only at hSw); (try (go_split_ands)); go_simp; try with_reducible rfl)
      try simp only [Act.put, List.setIfInBounds_toArray, List.set_cons_zero, List.set_cons_succ]
      refine wpAnyH_take (i := 5) (oi := { dst := some 14, op := Op.assign (Operand.tmp 97), type := 4, pos := "law.go:113", after := #[{ on := 4, ground := Ground.data }, { on := 0, ground := Ground.phase }, { on := 1, ground := Ground.phase }, { on := 2, ground := Ground.phase }, { on := 3, ground := Ground.phase }, { on := 4, ground := Ground.phase }], guard := none }) (v := ?v6) rfl (by kernel_rfl) (by kernel_rfl) (by kernel_rfl) (fun _ _ _ h => h) (Or.inl ⟨by rfl, ?y6⟩) (by assumption) ?r6
      case y6 => (intro w hSw; (try dsimp only at hSw); (try (go_split_ands)); go_simp; try with_reducible rfl)
      try simp only [Act.put, List.setIfInBounds_toArray, List.set_cons_zero, List.set_cons_succ]
      refine wpAnyH_done (by kernel_rfl) ?_ _
      refine NoPanic.normal ?_
      replace hArr := hide (hArr.out.below (below_drewN (Below.refl _ _) 1))
      replace hWr := hide (hWr.out.later (below_drewN (Below.refl _ _) 1))
      clear vA vB hHeld
      go_wp2_with fail
      refine (kO1.out _).mono ?_
      rintro e wa1 ⟨rfl, hb5⟩
      replace hArr := hide (hArr.out.below hb5)
      replace hWr := hide (hWr.out.later hb5)
      clear q0 q1 hb5 c0 c1
      have q0 := (pc.out _ hArr.out).1
      have q1 := (pc.out _ hArr.out).2
      go_wp2_with fail
      refine (kO2.out _).mono ?_
      rintro e wa2 ⟨rfl, hb5⟩
      replace hArr := hide (hArr.out.below hb5)
      replace hWr := hide (hWr.out.later hb5)
      clear q0 q1 hb5
      have q0 := (pc.out _ hArr.out).1
      have q1 := (pc.out _ hArr.out).2
      go_wp2_with fail
      refine (kBt.out _).mono ?_
      rintro e wa3 ⟨rfl, hb5⟩
      replace hArr := hide (hArr.out.below hb5)
      replace hWr := hide (hWr.out.later hb5)
      clear q0 q1 hb5
      have q0 := (pc.out _ hArr.out).1
      have q1 := (pc.out _ hArr.out).2
      go_wp2_with fail
      refine (kO7.out _).mono ?_
      rintro e wa4 ⟨rfl, hb5⟩
      replace hArr := hide (hArr.out.below hb5)
      replace hWr := hide (hWr.out.later hb5)
      clear q0 q1 hb5
      have q0 := (pc.out _ hArr.out).1
      have q1 := (pc.out _ hArr.out).2
      clear kO1 kO2 kBt kO7
      cases hpb : portB p0 p1
      · have kP := hide (fun w => PortId_bad p0 p1 w hp0 hpb)
        replace hpb := hide hpb
        go_wp2_with fail
        refine (kP.out _).mono ?_
        rintro e wq ⟨rfl, hq⟩
        subst hq
        by_cases y1 : p0 < 0
        · have z1 : decide (p0 < 0) = true := decide_eq_true y1
          clear y1
          go_wp2
          go_ret
          exact ⟨rfl, hWr.out⟩
        have z1 : decide (p0 < 0) = false := decide_eq_false y1
        have y1' : 0 ≤ p0 := by omega
        by_cases y2 : 240 < p0
        · have z2 : decide (240 < p0) = true := decide_eq_true y2
          clear y2 y1
          go_wp2
          go_ret
          exact ⟨rfl, hWr.out⟩
        have z2 : decide (240 < p0) = false := decide_eq_false y2
        by_cases y3 : p0 % 16 = 0
        · have z3 : (p0 % 16 != 0) = false := by rw [y3]; rfl
          by_cases y4 : p1 < 1
          · have z4 : decide (p1 < 1) = true := decide_eq_true y4
            clear y4 y3 y2 y1
            go_wp2
            go_ret
            exact ⟨rfl, hWr.out⟩
          have z4 : decide (p1 < 1) = false := decide_eq_false y4
          by_cases y5 : 4095 < p1
          · have z5 : decide (4095 < p1) = true := decide_eq_true y5
            clear y5 y4 y3 y2 y1
            go_wp2
            go_ret
            exact ⟨rfl, hWr.out⟩
          exfalso
          have := hpb.out
          rw [portB, priB, decide_eq_true y1', decide_eq_true (show p0 ≤ 240 by omega), decide_eq_true y3, decide_eq_true (show 1 ≤ p1 by omega), decide_eq_true (show p1 ≤ 4095 by omega)] at this
          cases this
        have z3 : (p0 % 16 != 0) = true := by
          rw [bne_iff_ne]
          exact y3
        clear y1 y2 y3
        go_wp2
        go_ret
        exact ⟨rfl, hWr.out⟩
      · have kP := hide (fun w => PortId_ok p0 p1 w hp0 hpb)
        have hpo : 0 ≤ p0 ∧ p0 ≤ 240 ∧ p0 % 16 = 0 ∧ 1 ≤ p1 ∧ p1 ≤ 4095 := by
          simp only [portB, priB, Bool.and_eq_true, decide_eq_true_eq] at hpb
          omega
        obtain ⟨o1, o2, o3, o4, o5⟩ := hpo
        have z1 : decide (p0 < 0) = false := decide_eq_false (by omega)
        have z2 : decide (240 < p0) = false := decide_eq_false (by omega)
        have z3 : (p0 % 16 != 0) = false := by rw [o3]; rfl
        have z4 : decide (p1 < 1) = false := decide_eq_false (by omega)
        have z5 : decide (4095 < p1) = false := decide_eq_false (by omega)
        clear hpb o3
        go_wp2_with fail
        refine (kP.out _).mono ?_
        rintro e wq ⟨rfl, hq⟩
        subst hq
        go_wp2
        go_ret
        exact ⟨rfl, hWr.out⟩
set_option maxRecDepth 20000 in
set_option maxHeartbeats 4000000 in
theorem Ids_EQF (p0 p1 a0 a1 a2 a3 a4 a5 b0 b1 b2 b3 b4 b5 : Int) (w : World) (hp0 : I64 p0) (hp1 : I64 p1) (hA : Byte [a0, a1, a2, a3, a4, a5]) (hB : Byte [b0, b1, b2, b3, b4, b5]) (hG0 : idB p0 = true) (hG1 : idB p1 = true) (heq : p0 = p1) (hll : decide (num [a0, a1, a2, a3, a4, a5] < num [b0, b1, b2, b3, b4, b5]) = false) :
    Calls Try.prog 10 #[.agg #[.int .i64 p0, .int .i64 p1], .agg #[.int .u8 a0, .int .u8 a1, .int .u8 a2, .int .u8 a3, .int .u8 a4, .int .u8 a5], .agg #[.int .u8 b0, .int .u8 b1, .int .u8 b2, .int .u8 b3, .int .u8 b4, .int .u8 b5]] w fun r w' => r = .returned (.bool true) ∧ Below w.heap.size w w' := by
  have hO := hide (fun w => orders_any w)
  have kA := hide (fun w => Id_ok p0 a0 a1 a2 a3 a4 a5 w hp0 hG0 hA)
  have kB := hide (fun w => Id_ok p1 b0 b1 b2 b3 b4 b5 w hp1 hG1 hB)
  have hAr := hide (Ar.made w p0 p1 a0 a1 a2 a3 a4 a5 b0 b1 b2 b3 b4 b5)
  have hW0 : Hid (Below w.heap.size w (((w.alloc (.cells #[.int .i64 p0, .int .i64 p1] 54)).alloc (.cells #[.int .u8 a0, .int .u8 a1, .int .u8 a2, .int .u8 a3, .int .u8 a4, .int .u8 a5] 56)).alloc (.cells #[.int .u8 b0, .int .u8 b1, .int .u8 b2, .int .u8 b3, .int .u8 b4, .int .u8 b5] 56))) := ((below1 _ _).later (below1 _ _)).later (below1 _ _)
  have hPr := hide (pair_at p0 p1)
  have nA := hide (num_bound [a0, a1, a2, a3, a4, a5] hA)
  have nB := hide (num_bound [b0, b1, b2, b3, b4, b5] hB)
  have hLs := less_num [a0, a1, a2, a3, a4, a5] [b0, b1, b2, b3, b4, b5] hA hB rfl
  have hbA := hide hA
  have hbB := hide hB
  have g0 := hide hG0
  have g1 := hide hG1
  clear hA hB hG0 hG1
  obtain ⟨x, hx⟩ : ∃ x, x = p0 * 281474976710656 + num [a0, a1, a2, a3, a4, a5] := ⟨_, rfl⟩
  obtain ⟨y, hy⟩ : ∃ y, y = p1 * 281474976710656 + num [b0, b1, b2, b3, b4, b5] := ⟨_, rfl⟩
  rw [← hx] at kA
  rw [← hy] at kB
  have r0 := priB_range g0.out
  have r1 := priB_range g1.out
  have e48 : (256 : Int) ^ 6 = 281474976710656 := by decide
  have n1 := nA.out
  have n2 := nB.out
  simp only [List.length_cons, List.length_nil, Nat.zero_add, e48] at n1 n2
  have hux : Hid (U64 x) := by show 0 ≤ x ∧ x ≤ 18446744073709551615; rw [hx]; omega
  have zx : decide (x < y) = false := by
    rw [← hll, hx, hy, heq]
    congr 1
    apply propext
    omega
  have zl : decide (p0 < p1) = false := decide_eq_false (by omega)
  have ze : (p0 == p1) = true := by rw [beq_iff_eq]; exact heq
  rw [hll] at hLs
  replace hLs := hide hLs
  clear r0 r1 e48 n1 n2 nA nB hll heq
  replace hx := hide hx
  replace hy := hide hy
  go_enter Try.func10, Try.ntmps10
  go_wp2_with fail
  refine (hO.out _).mono ?_
  rintro e w1 ⟨rfl, hb1⟩
  replace hAr := hide (hAr.out.below hb1)
  have hW := hide (hW0.out.later hb1)
  clear hb1 hO hW0
  have cp0 : w1.cell? ⟨w.heap.size, 0, none⟩ = some (.int .i64 p0) := (cell_of_row _ _ _ _ _ _ hAr.out.hp).trans rfl
  have ca0 : w1.cell? ⟨w.heap.size + 1, 0, none⟩ = some (.int .u8 a0) := (cell_of_row _ _ _ _ _ _ hAr.out.ha).trans rfl
  have ca1 : w1.cell? ⟨w.heap.size + 1, 1, none⟩ = some (.int .u8 a1) := (cell_of_row _ _ _ _ _ _ hAr.out.ha).trans rfl
  have ca2 : w1.cell? ⟨w.heap.size + 1, 2, none⟩ = some (.int .u8 a2) := (cell_of_row _ _ _ _ _ _ hAr.out.ha).trans rfl
  have ca3 : w1.cell? ⟨w.heap.size + 1, 3, none⟩ = some (.int .u8 a3) := (cell_of_row _ _ _ _ _ _ hAr.out.ha).trans rfl
  have ca4 : w1.cell? ⟨w.heap.size + 1, 4, none⟩ = some (.int .u8 a4) := (cell_of_row _ _ _ _ _ _ hAr.out.ha).trans rfl
  have ca5 : w1.cell? ⟨w.heap.size + 1, 5, none⟩ = some (.int .u8 a5) := (cell_of_row _ _ _ _ _ _ hAr.out.ha).trans rfl
  go_wp2_with fail
  refine (kA.out _).mono ?_
  rintro e w2 ⟨rfl, hb2⟩
  replace hAr := hide (hAr.out.below hb2)
  replace hW := hide (hW.out.later hb2)
  clear hb2 kA cp0 ca0 ca1 ca2 ca3 ca4 ca5
  have cp1 : w2.cell? ⟨w.heap.size, 1, none⟩ = some (.int .i64 p1) := (cell_of_row _ _ _ _ _ _ hAr.out.hp).trans rfl
  have cb0 : w2.cell? ⟨w.heap.size + 2, 0, none⟩ = some (.int .u8 b0) := (cell_of_row _ _ _ _ _ _ hAr.out.hb).trans rfl
  have cb1 : w2.cell? ⟨w.heap.size + 2, 1, none⟩ = some (.int .u8 b1) := (cell_of_row _ _ _ _ _ _ hAr.out.hb).trans rfl
  have cb2 : w2.cell? ⟨w.heap.size + 2, 2, none⟩ = some (.int .u8 b2) := (cell_of_row _ _ _ _ _ _ hAr.out.hb).trans rfl
  have cb3 : w2.cell? ⟨w.heap.size + 2, 3, none⟩ = some (.int .u8 b3) := (cell_of_row _ _ _ _ _ _ hAr.out.hb).trans rfl
  have cb4 : w2.cell? ⟨w.heap.size + 2, 4, none⟩ = some (.int .u8 b4) := (cell_of_row _ _ _ _ _ _ hAr.out.hb).trans rfl
  have cb5 : w2.cell? ⟨w.heap.size + 2, 5, none⟩ = some (.int .u8 b5) := (cell_of_row _ _ _ _ _ _ hAr.out.hb).trans rfl
  go_wp2_with fail
  refine (kB.out _).mono ?_
  rintro e w3 ⟨rfl, hb3⟩
  replace hAr := hide (hAr.out.below hb3)
  replace hW := hide (hW.out.later hb3)
  clear hb3 kB cp1 cb0 cb1 cb2 cb3 cb4 cb5
  have pc : Hid (∀ W : World, Ar W w.heap.size p0 p1 a0 a1 a2 a3 a4 a5 b0 b1 b2 b3 b4 b5 → W.cell? ⟨w.heap.size, 0, none⟩ = some (.int .i64 p0) ∧ W.cell? ⟨w.heap.size, 1, none⟩ = some (.int .i64 p1)) := fun W h => ⟨(cell_of_row _ _ _ _ _ _ h.hp).trans rfl, (cell_of_row _ _ _ _ _ _ h.hp).trans rfl⟩
  have hlg : w.heap.size + 2 < w3.heap.size := (Array.getElem?_eq_some_iff.1 hAr.out.hb).1
  have hl0 : w.heap.size < w3.heap.size := by omega
  have q0 := (pc.out _ hAr.out).1
  have q1 := (pc.out _ hAr.out).2
  have hG : Hid ((w3.alloc (.cells #[.bool false, .bool false] 59)).heap[w3.heap.size]? = some (.cells #[.bool false, .bool false] 59 (0, 0))) := heap_alloc_new w3 _
  have hB4 : Hid (Below w3.heap.size w3 (w3.alloc (.cells #[.bool false, .bool false] 59))) := below1 _ _
  go_wp2
  generalize w3.alloc (.cells #[.bool false, .bool false] 59) = w4 at *
  clear q0 q1
  go_loopw [35] (fun i wr => ∃ j : Nat, j ≤ 2 ∧ i = .int .i64 j ∧ Hid (wr.heap[w3.heap.size]? = some (.cells (gd true true j) 59 (0, 0))) ∧ Hid (Below w3.heap.size w3 wr)) (fun i _ => 2 - (intOf i).toNat)
  case atStart => exact ⟨0, Nat.zero_le _, rfl, hG, hB4⟩
  case round =>
    obtain ⟨j, hj, rfl, hGr, hBr⟩ := hrel
    clear hG hB4
    rcases (show j = 0 ∨ j = 1 ∨ j = 2 by omega) with rfl | rfl | rfl
    · have cg : wr.cell? ⟨w3.heap.size, 0, none⟩ = some (.bool false) := (cell_of_row _ _ _ _ _ _ hGr.out).trans rfl
      have fz : wr.frozen? ⟨w3.heap.size, 0, none⟩ = false := frozen_of_row _ _ _ _ _ hGr.out
      have hix : ∀ w, (Instr.index 54 (.agg #[.int .i64 p0, .int .i64 p1]) (.int .i64 0)).run Try.prog w = .ok (.int .i64 p0) w := fun w => hPr.out 0 (by decide) w
      have hN : Hid ((wr.setCell ⟨w3.heap.size, 0, none⟩ (.bool true)).heap[w3.heap.size]? = some (.cells (gd true true 1) 59 (0, 0))) := (heap_setCell_same _ _ _ _ _ _ hGr.out).trans rfl
      have hBn : Hid (Below w3.heap.size w3 (wr.setCell ⟨w3.heap.size, 0, none⟩ (.bool true))) := hBr.out.trans ⟨rfl, rfl, rfl, by simp [World.setCell], fun c hc => heap_setCell_other wr ⟨w3.heap.size, 0, none⟩ c _ (show c ≠ w3.heap.size by omega)⟩
      have z1 : decide (0 ≤ p0) = true := decide_eq_true (priB_range g0.out).1
      have z2 : decide (p0 ≤ 61440) = true := decide_eq_true (priB_range g0.out).2.1
      have z0 : 0 ≤ p0 := (priB_range g0.out).1
      have z3 : (p0 % 4096 == 0) = true := by rw [beq_iff_eq]; exact (priB_range g0.out).2.2
      go_wp2
      go_round
      case rel => exact ⟨1, by omega, by go_num, hN, hBn⟩
      case measure => simp [intOf]
    · have cg : wr.cell? ⟨w3.heap.size, 1, none⟩ = some (.bool false) := (cell_of_row _ _ _ _ _ _ hGr.out).trans rfl
      have fz : wr.frozen? ⟨w3.heap.size, 1, none⟩ = false := frozen_of_row _ _ _ _ _ hGr.out
      have hix : ∀ w, (Instr.index 54 (.agg #[.int .i64 p0, .int .i64 p1]) (.int .i64 1)).run Try.prog w = .ok (.int .i64 p1) w := fun w => hPr.out 1 (by decide) w
      have hN : Hid ((wr.setCell ⟨w3.heap.size, 1, none⟩ (.bool true)).heap[w3.heap.size]? = some (.cells (gd true true 2) 59 (0, 0))) := (heap_setCell_same _ _ _ _ _ _ hGr.out).trans rfl
      have hBn : Hid (Below w3.heap.size w3 (wr.setCell ⟨w3.heap.size, 1, none⟩ (.bool true))) := hBr.out.trans ⟨rfl, rfl, rfl, by simp [World.setCell], fun c hc => heap_setCell_other wr ⟨w3.heap.size, 1, none⟩ c _ (show c ≠ w3.heap.size by omega)⟩
      have z1 : decide (0 ≤ p1) = true := decide_eq_true (priB_range g1.out).1
      have z2 : decide (p1 ≤ 61440) = true := decide_eq_true (priB_range g1.out).2.1
      have z0 : 0 ≤ p1 := (priB_range g1.out).1
      have z3 : (p1 % 4096 == 0) = true := by rw [beq_iff_eq]; exact (priB_range g1.out).2.2
      go_wp2
      go_round
      case rel => exact ⟨2, by omega, by go_num, hN, hBn⟩
      case measure => simp [intOf]
    · have c0 : wr.cell? ⟨w3.heap.size, 0, none⟩ = some (.bool true) := (cell_of_row _ _ _ _ _ _ hGr.out).trans rfl
      have c1 : wr.cell? ⟨w3.heap.size, 1, none⟩ = some (.bool true) := (cell_of_row _ _ _ _ _ _ hGr.out).trans rfl
      have hArr := hide (hAr.out.below hBr.out)
      have q0 := (pc.out _ hArr.out).1
      have q1 := (pc.out _ hArr.out).2
      have hWr := hide (hW.out.later hBr.out)
      clear hGr hBr hAr hW
      have kO1 := hide (fun w => Own_any x 1 w)
      have kO2 := hide (fun w => Own_any y 1 w)
      have kBt := hide (fun w => Better_any ⟨x, 0, x, 1⟩ ⟨y, 0, y, 1⟩ w)
      rw [bet_own, zx] at kBt
      have kO7 := hide (fun w => Own_any x 7 w)
      have hnq := vec_neq ⟨x, 0, x, 7⟩ ⟨x, 0, x, 7⟩ ⟨hux.out, show U64 0 by unfold U64; omega, hux.out, show I64 7 by unfold I64; omega⟩ ⟨hux.out, show U64 0 by unfold U64; omega, hux.out, show I64 7 by unfold I64; omega⟩
      rw [decide_eq_true rfl] at hnq
      have hgd := eqGuard_vec
      go_wp2_with fail
      have hsA : Bs wr.drew (.slice (some ⟨w.heap.size + 1, 0, none⟩) 6 6) [a0, a1, a2, a3, a4, a5] := (bs_six hArr.out.ha hbA.out).below (below_drewN (Below.refl _ _) 1)
      have hsB : Bs wr.drew (.slice (some ⟨w.heap.size + 2, 0, none⟩) 6 6) [b0, b1, b2, b3, b4, b5] := (bs_six hArr.out.hb hbB.out).below (below_drewN (Below.refl _ _) 1)
      have vA := conv_str (P := Try.prog) 60 9 5 Try.underlying60 Try.underlying5 Try.underlying9 hsA
      have vB := conv_str (P := Try.prog) 60 9 5 Try.underlying60 Try.underlying5 Try.underlying9 hsB
      have hbl : Op.bytesLess (bstr [a0, a1, a2, a3, a4, a5]).toList (bstr [b0, b1, b2, b3, b4, b5]).toList = false := by
        rw [ByteArray.toList_eq, ByteArray.toList_eq]
        exact hLs.out
      generalize bstr [a0, a1, a2, a3, a4, a5] = sA at *
      generalize bstr [b0, b1, b2, b3, b4, b5] = sB at *
      clear hsA hsB
      refine wp_region_noPanic ?_
      refine wp_region_held_drew (S := fun W => (convert 60 9 (.slice (some ⟨w.heap.size + 1, 0, none⟩) 6 6)).run Try.prog W = .ok (.string sA) W ∧ (convert 60 9 (.slice (some ⟨w.heap.size + 2, 0, none⟩) 6 6)).run Try.prog W = .ok (.string sB) W ∧ (convert 60 9 (.slice (some ⟨w.heap.size + 1 + 1, 0, none⟩) 6 6)).run Try.prog W = .ok (.string sB) W) (by kernel_rfl) ⟨vA, vB, vB⟩ (fun hHeld => ?_)
      refine wpAnyH_take (i := 0) (oi := { dst := some 93, op := Op.slice 56 (Operand.tmp 4) none none none, type := 60, pos := "law.go:113", after := #[], guard := none }) (v := ?v7) rfl (by kernel_rfl) (by kernel_rfl) (by kernel_rfl) (fun _ _ _ h => h) (Or.inl ⟨by rfl, ?y7⟩) (by assumption) ?r7
      case y7 => (intro w hSw; (try dsimp only at hSw); (try (go_split_ands)); go_simp; try with_reducible rfl)
      try simp only [Act.put, List.setIfInBounds_toArray, List.set_cons_zero, List.set_cons_succ]
      refine wpAnyH_take (i := 1) (oi := { dst := some 94, op := Op.convert 60 9 (Operand.tmp 93), type := 9, pos := "law.go:113", after := #[{ on := 0, ground := Ground.data }], guard := none }) (v := ?v8) rfl (by kernel_rfl) (by kernel_rfl) (by kernel_rfl) (fun _ _ _ h => h) (Or.inl ⟨by rfl, ?y8⟩) (by assumption) ?r8
      case y8 => (intro w hSw; (try dsimp only at hSw); (try (go_split_ands)); go_simp; try with_reducible rfl)
      try simp only [Act.put, List.setIfInBounds_toArray, List.set_cons_zero, List.set_cons_succ]
      refine wpAnyH_take (i := 2) (oi := { dst := some 95, op := Op.slice 56 (Operand.tmp 5) none none none, type := 60, pos := "law.go:113", after := #[], guard := none }) (v := ?v9) rfl (by kernel_rfl) (by kernel_rfl) (by kernel_rfl) (fun _ _ _ h => h) (Or.inl ⟨by rfl, ?y9⟩) (by assumption) ?r9
      case y9 => (intro w hSw; (try dsimp only at hSw); (try (go_split_ands)); go_simp; try with_reducible rfl)
      try simp only [Act.put, List.setIfInBounds_toArray, List.set_cons_zero, List.set_cons_succ]
      refine wpAnyH_take (i := 3) (oi := { dst := some 96, op := Op.convert 60 9 (Operand.tmp 95), type := 9, pos := "law.go:113", after := #[{ on := 2, ground := Ground.data }], guard := none }) (v := ?v10) rfl (by kernel_rfl) (by kernel_rfl) (by kernel_rfl) (fun _ _ _ h => h) (Or.inl ⟨by rfl, ?y10⟩) (by assumption) ?r10
      case y10 => (intro w hSw; (try dsimp only at hSw); (try (go_split_ands)); go_simp; try with_reducible rfl)
      try simp only [Act.put, List.setIfInBounds_toArray, List.set_cons_zero, List.set_cons_succ]
      refine wpAnyH_take (i := 4) (oi := { dst := some 97, op := Op.binOp BinOp.lss 9 (Operand.tmp 94) (Operand.tmp 96) 9, type := 4, pos := "law.go:113", after := #[{ on := 1, ground := Ground.data }, { on := 3, ground := Ground.data }], guard := none }) (v := ?v11) rfl (by kernel_rfl) (by kernel_rfl) (by kernel_rfl) (fun _ _ _ h => h) (Or.inl ⟨by rfl, ?y11⟩) (by assumption) ?r11
      case y11 => (intro w hSw; (try dsimp only at hSw); (try (go_split_ands)); go_simp; try with_reducible rfl)
      try simp only [Act.put, List.setIfInBounds_toArray, List.set_cons_zero, List.set_cons_succ]
      refine wpAnyH_take (i := 5) (oi := { dst := some 14, op := Op.assign (Operand.tmp 97), type := 4, pos := "law.go:113", after := #[{ on := 4, ground := Ground.data }, { on := 0, ground := Ground.phase }, { on := 1, ground := Ground.phase }, { on := 2, ground := Ground.phase }, { on := 3, ground := Ground.phase }, { on := 4, ground := Ground.phase }], guard := none }) (v := ?v12) rfl (by kernel_rfl) (by kernel_rfl) (by kernel_rfl) (fun _ _ _ h => h) (Or.inl ⟨by rfl, ?y12⟩) (by assumption) ?r12
      case y12 => (intro w hSw; (try dsimp only at hSw); (try (go_split_ands)); go_simp; try with_reducible rfl)
      try simp only [Act.put, List.setIfInBounds_toArray, List.set_cons_zero, List.set_cons_succ]
      refine wpAnyH_done (by kernel_rfl) ?_ _
      refine NoPanic.normal ?_
      replace hArr := hide (hArr.out.below (below_drewN (Below.refl _ _) 1))
      replace hWr := hide (hWr.out.later (below_drewN (Below.refl _ _) 1))
      clear vA vB hHeld
      go_wp2_with fail
      refine (kO1.out _).mono ?_
      rintro e wa1 ⟨rfl, hb5⟩
      replace hArr := hide (hArr.out.below hb5)
      replace hWr := hide (hWr.out.later hb5)
      clear q0 q1 hb5 c0 c1
      have q0 := (pc.out _ hArr.out).1
      have q1 := (pc.out _ hArr.out).2
      go_wp2_with fail
      refine (kO2.out _).mono ?_
      rintro e wa2 ⟨rfl, hb5⟩
      replace hArr := hide (hArr.out.below hb5)
      replace hWr := hide (hWr.out.later hb5)
      clear q0 q1 hb5
      have q0 := (pc.out _ hArr.out).1
      have q1 := (pc.out _ hArr.out).2
      go_wp2_with fail
      refine (kBt.out _).mono ?_
      rintro e wa3 ⟨rfl, hb5⟩
      replace hArr := hide (hArr.out.below hb5)
      replace hWr := hide (hWr.out.later hb5)
      clear q0 q1 hb5
      have q0 := (pc.out _ hArr.out).1
      have q1 := (pc.out _ hArr.out).2
      go_wp2_with fail
      refine (kO7.out _).mono ?_
      rintro e wa4 ⟨rfl, hb5⟩
      replace hArr := hide (hArr.out.below hb5)
      replace hWr := hide (hWr.out.later hb5)
      clear q0 q1 hb5
      have q0 := (pc.out _ hArr.out).1
      have q1 := (pc.out _ hArr.out).2
      clear kO1 kO2 kBt kO7
      cases hpb : portB p0 p1
      · have kP := hide (fun w => PortId_bad p0 p1 w hp0 hpb)
        replace hpb := hide hpb
        go_wp2_with fail
        refine (kP.out _).mono ?_
        rintro e wq ⟨rfl, hq⟩
        subst hq
        by_cases y1 : p0 < 0
        · have z1 : decide (p0 < 0) = true := decide_eq_true y1
          clear y1
          go_wp2
          go_ret
          exact ⟨rfl, hWr.out⟩
        have z1 : decide (p0 < 0) = false := decide_eq_false y1
        have y1' : 0 ≤ p0 := by omega
        by_cases y2 : 240 < p0
        · have z2 : decide (240 < p0) = true := decide_eq_true y2
          clear y2 y1
          go_wp2
          go_ret
          exact ⟨rfl, hWr.out⟩
        have z2 : decide (240 < p0) = false := decide_eq_false y2
        by_cases y3 : p0 % 16 = 0
        · have z3 : (p0 % 16 != 0) = false := by rw [y3]; rfl
          by_cases y4 : p1 < 1
          · have z4 : decide (p1 < 1) = true := decide_eq_true y4
            clear y4 y3 y2 y1
            go_wp2
            go_ret
            exact ⟨rfl, hWr.out⟩
          have z4 : decide (p1 < 1) = false := decide_eq_false y4
          by_cases y5 : 4095 < p1
          · have z5 : decide (4095 < p1) = true := decide_eq_true y5
            clear y5 y4 y3 y2 y1
            go_wp2
            go_ret
            exact ⟨rfl, hWr.out⟩
          exfalso
          have := hpb.out
          rw [portB, priB, decide_eq_true y1', decide_eq_true (show p0 ≤ 240 by omega), decide_eq_true y3, decide_eq_true (show 1 ≤ p1 by omega), decide_eq_true (show p1 ≤ 4095 by omega)] at this
          cases this
        have z3 : (p0 % 16 != 0) = true := by
          rw [bne_iff_ne]
          exact y3
        clear y1 y2 y3
        go_wp2
        go_ret
        exact ⟨rfl, hWr.out⟩
      · have kP := hide (fun w => PortId_ok p0 p1 w hp0 hpb)
        have hpo : 0 ≤ p0 ∧ p0 ≤ 240 ∧ p0 % 16 = 0 ∧ 1 ≤ p1 ∧ p1 ≤ 4095 := by
          simp only [portB, priB, Bool.and_eq_true, decide_eq_true_eq] at hpb
          omega
        obtain ⟨o1, o2, o3, o4, o5⟩ := hpo
        have z1 : decide (p0 < 0) = false := decide_eq_false (by omega)
        have z2 : decide (240 < p0) = false := decide_eq_false (by omega)
        have z3 : (p0 % 16 != 0) = false := by rw [o3]; rfl
        have z4 : decide (p1 < 1) = false := decide_eq_false (by omega)
        have z5 : decide (4095 < p1) = false := decide_eq_false (by omega)
        clear hpb o3
        go_wp2_with fail
        refine (kP.out _).mono ?_
        rintro e wq ⟨rfl, hq⟩
        subst hq
        go_wp2
        go_ret
        exact ⟨rfl, hWr.out⟩
theorem Ids_walk (p0 p1 a0 a1 a2 a3 a4 a5 b0 b1 b2 b3 b4 b5 : Int) (w : World) (hp0 : I64 p0) (hp1 : I64 p1) (hA : Byte [a0, a1, a2, a3, a4, a5]) (hB : Byte [b0, b1, b2, b3, b4, b5]) :
    Calls Try.prog 10 #[.agg #[.int .i64 p0, .int .i64 p1], .agg #[.int .u8 a0, .int .u8 a1, .int .u8 a2, .int .u8 a3, .int .u8 a4, .int .u8 a5], .agg #[.int .u8 b0, .int .u8 b1, .int .u8 b2, .int .u8 b3, .int .u8 b4, .int .u8 b5]] w fun r w' => r = .returned (.bool true) ∧ Below w.heap.size w w' := by
  cases h0 : idB p0
  · cases h1 : idB p1
    · exact Ids_FF p0 p1 a0 a1 a2 a3 a4 a5 b0 b1 b2 b3 b4 b5 w hp0 hp1 hA hB h0 h1
    · exact Ids_FT p0 p1 a0 a1 a2 a3 a4 a5 b0 b1 b2 b3 b4 b5 w hp0 hp1 hA hB h0 h1
  · cases h1 : idB p1
    · exact Ids_TF p0 p1 a0 a1 a2 a3 a4 a5 b0 b1 b2 b3 b4 b5 w hp0 hp1 hA hB h0 h1
    · rcases Int.lt_trichotomy p0 p1 with h | h | h
      · exact Ids_LT p0 p1 a0 a1 a2 a3 a4 a5 b0 b1 b2 b3 b4 b5 w hp0 hp1 hA hB h0 h1 h
      · cases hl : decide (num [a0, a1, a2, a3, a4, a5] < num [b0, b1, b2, b3, b4, b5])
        · exact Ids_EQF p0 p1 a0 a1 a2 a3 a4 a5 b0 b1 b2 b3 b4 b5 w hp0 hp1 hA hB h0 h1 h hl
        · exact Ids_EQT p0 p1 a0 a1 a2 a3 a4 a5 b0 b1 b2 b3 b4 b5 w hp0 hp1 hA hB h0 h1 h hl
      · exact Ids_GT p0 p1 a0 a1 a2 a3 a4 a5 b0 b1 b2 b3 b4 b5 w hp0 hp1 hA hB h0 h1 h
end Go.Proofs.Ytjfjohbibkidhaa
