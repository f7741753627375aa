/-
  The head of layer 8's statements; VectorOrders, VectorSupersedes, VectorCosts walked. Conditions: those that each theorem names.
-/
import Derived.Test.YtjfjohbibkidhaaVec2
namespace Go.Proofs.Ytjfjohbibkidhaa
open Go.RowKit
set_option linter.unusedVariables false

/-- Two vectors that lie beside each other. -/
structure Two (w : World) (g : Nat) (a b : Vc) : Prop where
  a0 : w.cell? ⟨g, 0, none⟩ = some (.int .u64 a.root)
  a1 : w.cell? ⟨g, 1, none⟩ = some (.int .u64 a.cost)
  a2 : w.cell? ⟨g, 2, none⟩ = some (.int .u64 a.bridge)
  a3 : w.cell? ⟨g, 3, none⟩ = some (.int .i64 a.port)
  b0 : w.cell? ⟨g + 1, 0, none⟩ = some (.int .u64 b.root)
  b1 : w.cell? ⟨g + 1, 1, none⟩ = some (.int .u64 b.cost)
  b2 : w.cell? ⟨g + 1, 2, none⟩ = some (.int .u64 b.bridge)
  b3 : w.cell? ⟨g + 1, 3, none⟩ = some (.int .i64 b.port)
theorem Two.below {w w' : World} {g : Nat} {a b : Vc} (h : Two w g a b) (hb : Below w.heap.size w w') : Two w' g a b := by
  have l0 := block_lt_of_cell h.a0
  have l1 := block_lt_of_cell h.b0
  exact ⟨(hb.cell (p := ⟨g, 0, none⟩) l0).trans h.a0, (hb.cell (p := ⟨g, 1, none⟩) l0).trans h.a1, (hb.cell (p := ⟨g, 2, none⟩) l0).trans h.a2, (hb.cell (p := ⟨g, 3, none⟩) l0).trans h.a3,
    (hb.cell (p := ⟨g + 1, 0, none⟩) l1).trans h.b0, (hb.cell (p := ⟨g + 1, 1, none⟩) l1).trans h.b1, (hb.cell (p := ⟨g + 1, 2, none⟩) l1).trans h.b2, (hb.cell (p := ⟨g + 1, 3, none⟩) l1).trans h.b3⟩
theorem Two.of_heap {w : World} {g : Nat} {a b : Vc} {t t' : TypeId} (h : w.heap[g]? = some (.cells a.row t (0, 0))) (h' : w.heap[g + 1]? = some (.cells b.row t' (0, 0))) : Two w g a b :=
  ⟨(cell_of_row _ _ _ _ _ _ h).trans rfl, (cell_of_row _ _ _ _ _ _ h).trans rfl, (cell_of_row _ _ _ _ _ _ h).trans rfl, (cell_of_row _ _ _ _ _ _ h).trans rfl,
    (cell_of_row _ _ _ _ _ _ h').trans rfl, (cell_of_row _ _ _ _ _ _ h').trans rfl, (cell_of_row _ _ _ _ _ _ h').trans rfl, (cell_of_row _ _ _ _ _ _ h').trans rfl⟩
theorem cells_vecT : Try.prog.cellsOf 45 = 4 := by kernel_rfl
theorem field_root (a b c d : Int) (w : World) : (Instr.field 45 (.agg (Vc.row ⟨a, b, c, d⟩)) 0).run Try.prog w = .ok (.int .u64 a) w := by
  simp [Instr.field, run_underlying Try.underlying45, go_sem, asAgg]
theorem field_cost (a b c d : Int) (w : World) : (Instr.field 45 (.agg (Vc.row ⟨a, b, c, d⟩)) 1).run Try.prog w = .ok (.int .u64 b) w := by
  simp [Instr.field, run_underlying Try.underlying45, go_sem, asAgg]
@[reducible] def oA : Vc := ⟨1, 0, 1, 5⟩
@[reducible] def oB : Vc := ⟨1, 4, 2, 1⟩
theorem two_vcs (w : World) : Hid (Vcs (w.alloc (.cells #[.int .u64 1, .int .u64 4, .int .u64 2, .int .i64 1, .int .u64 1, .int .u64 0, .int .u64 1, .int .i64 5] 45)) (some ⟨w.heap.size, 0, none⟩) 2 [oB, oA]) := by
  have hN := heap_alloc_new w (.cells #[.int .u64 1, .int .u64 4, .int .u64 2, .int .i64 1, .int .u64 1, .int .u64 0, .int .u64 1, .int .i64 5] 45)
  intro i hi
  refine ⟨w.heap.size, 0, rfl, ?_⟩
  rcases (show i = 0 ∨ i = 1 by omega) with rfl | rfl
  · exact ⟨(cell_of_row _ _ _ _ _ _ hN).trans rfl, (cell_of_row _ _ _ _ _ _ hN).trans rfl, (cell_of_row _ _ _ _ _ _ hN).trans rfl, (cell_of_row _ _ _ _ _ _ hN).trans rfl, ⟨by unfold U64; decide, by unfold U64; decide, by unfold U64; decide, by unfold I64; decide⟩⟩
  · exact ⟨(cell_of_row _ _ _ _ _ _ hN).trans rfl, (cell_of_row _ _ _ _ _ _ hN).trans rfl, (cell_of_row _ _ _ _ _ _ hN).trans rfl, (cell_of_row _ _ _ _ _ _ hN).trans rfl, ⟨by unfold U64; decide, by unfold U64; decide, by unfold U64; decide, by unfold I64; decide⟩⟩
theorem num12 : num [0, 0, 0, 0, 1, 2] = 258 := by decide
theorem orders_any (w : World) : Calls Try.prog 25 #[] w fun r w' => r = .returned (.bool true) ∧ Below w.heap.size w w' := by
  have hId := hide (fun w => Id_ok 4096 0 0 0 0 1 2 w (by unfold I64; omega) (by decide) (by intro z hz; simp at hz; omega))
  rw [num12] at hId
  have k1 := hide (fun w => Better_any oA oB w)
  have k2 := hide (fun w => Better_any oB oA w)
  have k3 := hide (fun w => Compare_any oA oA w)
  have k4 := hide (fun w => Over_any oB 10 w (by unfold U64; decide) (by unfold U64; decide))
  have k5 := hide (fun w => Sup_any oA oB w)
  rw [show betB oA oB = true by decide] at k1
  rw [show betB oB oA = false by decide] at k2
  rw [show cmpN oA oA = 0 by decide] at k3
  rw [show supB oA oB = true by decide] at k5
  rw [show overN oB.cost 10 = 14 by decide] at k4
  dsimp only at k4
  have hf := field_cost 1 14 2 1
  go_enter Try.func25, Try.ntmps25
  go_wp2_with fail
  refine (Own_any 1 5 _).mono ?_
  rintro e w1 ⟨rfl, hb1⟩
  go_wp2_with fail
  refine (hId.out _).mono ?_
  rintro e w2 ⟨rfl, hb2⟩
  clear hId
  have h2 : Hid (Two w2 w1.heap.size oA oB) := (Two.of_heap (a := oA) (b := oB) (heap_alloc2_oldB _ _ _) (heap_alloc2_newB _ _ _)).below hb2
  have hb2' : Hid (Below w.heap.size w w2) := (hb1.later ((below1 _ _).later (below1 _ _))).later hb2
  generalize w1.heap.size = g at *
  clear hb1 hb2
  go_wp2_with fail
  refine (PortId_ok 128 3 _ (by unfold I64; omega) (by decide)).mono ?_
  rintro e w3 ⟨rfl, rfl⟩
  obtain ⟨a0, a1, a2, a3, b0, b1, b2, b3⟩ := h2.out
  dsimp only at *
  go_wp2_with fail
  refine (k1.out _).mono ?_
  rintro e w4 ⟨rfl, hb⟩
  replace h2 := hide (h2.out.below hb)
  replace hb2' := hide (hb2'.out.later hb)
  clear a0 a1 a2 a3 b0 b1 b2 b3 hb
  obtain ⟨a0, a1, a2, a3, b0, b1, b2, b3⟩ := h2.out
  dsimp only at *
  go_wp2_with fail
  refine (k2.out _).mono ?_
  rintro e w5 ⟨rfl, hb⟩
  replace h2 := hide (h2.out.below hb)
  replace hb2' := hide (hb2'.out.later hb)
  clear a0 a1 a2 a3 b0 b1 b2 b3 hb
  obtain ⟨a0, a1, a2, a3, b0, b1, b2, b3⟩ := h2.out
  dsimp only at *
  go_wp2_with fail
  refine (k3.out _).mono ?_
  rintro e w6 ⟨rfl, hb⟩
  replace h2 := hide (h2.out.below hb)
  replace hb2' := hide (hb2'.out.later hb)
  clear a0 a1 a2 a3 b0 b1 b2 b3 hb
  obtain ⟨a0, a1, a2, a3, b0, b1, b2, b3⟩ := h2.out
  dsimp only at *
  go_wp2_with fail
  refine (k4.out _).mono ?_
  rintro e w7 ⟨rfl, hb⟩
  replace h2 := hide (h2.out.below hb)
  replace hb2' := hide (hb2'.out.later hb)
  clear a0 a1 a2 a3 b0 b1 b2 b3 hb
  obtain ⟨a0, a1, a2, a3, b0, b1, b2, b3⟩ := h2.out
  dsimp only at *
  go_wp2_with fail
  have k6 := Best_any (some ⟨w7.heap.size, 0, none⟩) 2 2 [oB, oA] (w7.alloc (.cells #[.int .u64 1, .int .u64 4, .int .u64 2, .int .i64 1, .int .u64 1, .int .u64 0, .int .u64 1, .int .i64 5] 45)) (by omega) (two_vcs w7)
  rw [show bestN [oB, oA] 2 = 1 by decide] at k6
  refine (k6).mono ?_
  rintro e w8 ⟨rfl, hb⟩
  replace h2 := hide (h2.out.below ((below1 _ _).later hb))
  replace hb2' := hide (hb2'.out.later ((below1 _ _).later hb))
  clear a0 a1 a2 a3 b0 b1 b2 b3 hb
  obtain ⟨a0, a1, a2, a3, b0, b1, b2, b3⟩ := h2.out
  dsimp only at *
  go_wp2_with fail
  have k7 := Best_any none 0 0 [] w8 (by omega) (hide fun i hi => by omega)
  rw [show bestN [] 0 = -1 by decide] at k7
  refine (k7).mono ?_
  rintro e w9 ⟨rfl, hb⟩
  replace h2 := hide (h2.out.below hb)
  replace hb2' := hide (hb2'.out.later hb)
  clear a0 a1 a2 a3 b0 b1 b2 b3 hb
  obtain ⟨a0, a1, a2, a3, b0, b1, b2, b3⟩ := h2.out
  dsimp only at *
  go_wp2_with fail
  refine (k5.out _).mono ?_
  rintro e w10 ⟨rfl, hb⟩
  replace h2 := hide (h2.out.below hb)
  replace hb2' := hide (hb2'.out.later hb)
  clear a0 a1 a2 a3 b0 b1 b2 b3 hb
  obtain ⟨a0, a1, a2, a3, b0, b1, b2, b3⟩ := h2.out
  dsimp only at *
  go_wp2_with fail
  have k8 := Cost_any 1000 w10
  rw [show costN 1000 = 20000 by decide] at k8
  refine k8.mono ?_
  rintro e w11 ⟨rfl, rfl⟩
  go_wp2
  go_ret
  exact ⟨rfl, hb2'.out⟩
end Go.Proofs.Ytjfjohbibkidhaa
