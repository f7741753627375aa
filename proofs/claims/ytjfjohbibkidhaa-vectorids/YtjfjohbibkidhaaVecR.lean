/-
  VectorOrders, walked. Conditions: those that each theorem names.
-/
import Derived.Test.YtjfjohbibkidhaaVec3
namespace Go.Proofs.Ytjfjohbibkidhaa
open Go.RowKit
set_option linter.unusedVariables false

/-- Three vectors that lie beside each other. -/
structure Thr (w : World) (g : Nat) (a b c : Vc) : Prop where
  two : Two w g a b
  c0 : w.cell? ⟨g + 2, 0, none⟩ = some (.int .u64 c.root)
  c1 : w.cell? ⟨g + 2, 1, none⟩ = some (.int .u64 c.cost)
  c2 : w.cell? ⟨g + 2, 2, none⟩ = some (.int .u64 c.bridge)
  c3 : w.cell? ⟨g + 2, 3, none⟩ = some (.int .i64 c.port)
theorem Thr.below {w w' : World} {g : Nat} {a b c : Vc} (h : Thr w g a b c) (hb : Below w.heap.size w w') : Thr w' g a b c := by
  have l0 := block_lt_of_cell h.c0
  exact ⟨h.two.below hb, (hb.cell (p := ⟨g + 2, 0, none⟩) l0).trans h.c0, (hb.cell (p := ⟨g + 2, 1, none⟩) l0).trans h.c1, (hb.cell (p := ⟨g + 2, 2, none⟩) l0).trans h.c2, (hb.cell (p := ⟨g + 2, 3, none⟩) l0).trans h.c3⟩
theorem Thr.made (w : World) (a b c : Vc) (t : TypeId) : Thr (((w.alloc (.cells a.row t)).alloc (.cells b.row t)).alloc (.cells c.row t)) w.heap.size a b c := by
  have hN : (((w.alloc (.cells a.row t)).alloc (.cells b.row t)).alloc (.cells c.row t)).heap[w.heap.size + 2]? = some (.cells c.row t) := by
    have h := heap_alloc_new ((w.alloc (.cells a.row t)).alloc (.cells b.row t)) (.cells c.row t)
    rwa [World.size_alloc, World.size_alloc] at h
  exact ⟨(Two.of_heap (heap_alloc2_oldB _ _ _) (heap_alloc2_newB _ _ _)).below (below1 _ _), (cell_of_row _ _ _ _ _ _ hN).trans rfl, (cell_of_row _ _ _ _ _ _ hN).trans rfl, (cell_of_row _ _ _ _ _ _ hN).trans rfl, (cell_of_row _ _ _ _ _ _ hN).trans rfl⟩
theorem cmp_cases (a b : Vc) :
    (cmpN a b = -1 ∧ cmpN b a = 1 ∧ (a.root < b.root ∨ a.root = b.root ∧ a.cost < b.cost ∨ a.root = b.root ∧ a.cost = b.cost ∧ a.bridge < b.bridge ∨ a.root = b.root ∧ a.cost = b.cost ∧ a.bridge = b.bridge ∧ a.port < b.port)) ∨
    (cmpN a b = 1 ∧ cmpN b a = -1 ∧ (b.root < a.root ∨ a.root = b.root ∧ b.cost < a.cost ∨ a.root = b.root ∧ a.cost = b.cost ∧ b.bridge < a.bridge ∨ a.root = b.root ∧ a.cost = b.cost ∧ a.bridge = b.bridge ∧ b.port < a.port)) ∨
    (cmpN a b = 0 ∧ cmpN b a = 0 ∧ a.root = b.root ∧ a.cost = b.cost ∧ a.bridge = b.bridge ∧ a.port = b.port) := by
  unfold cmpN
  simp only [orL, ordN]
  rcases Int.lt_trichotomy a.root b.root with h | h | h
  · left; simp [h, show ¬ b.root < a.root by omega]
  · rcases Int.lt_trichotomy a.cost b.cost with h1 | h1 | h1
    · left; simp [h, h1, show ¬ b.cost < a.cost by omega]
    · rcases Int.lt_trichotomy a.bridge b.bridge with h2 | h2 | h2
      · left; simp [h, h1, h2, show ¬ b.bridge < a.bridge by omega]
      · rcases Int.lt_trichotomy a.port b.port with h3 | h3 | h3
        · left; simp [h, h1, h2, h3, show ¬ b.port < a.port by omega]
        · right; right; simp [h, h1, h2, h3]
        · right; left; simp [h, h1, h2, h3, show ¬ a.port < b.port by omega]
      · right; left; simp [h, h1, h2, show ¬ a.bridge < b.bridge by omega]
    · right; left; simp [h, h1, show ¬ a.cost < b.cost by omega]
  · right; left; simp [h, show ¬ a.root < b.root by omega]
theorem bet_iff (a b : Vc) : betB a b = true ↔ (a.root < b.root ∨ a.root = b.root ∧ a.cost < b.cost ∨ a.root = b.root ∧ a.cost = b.cost ∧ a.bridge < b.bridge ∨ a.root = b.root ∧ a.cost = b.cost ∧ a.bridge = b.bridge ∧ a.port < b.port) := by
  unfold betB
  rw [decide_eq_true_eq]
  rcases cmp_cases a b with ⟨h, _, h1⟩ | ⟨h, _, h1⟩ | ⟨h, _, h1⟩ <;> rw [h] <;> simp <;> omega
theorem bet_trans (a b c : Vc) (h : betB a b = true) (h' : betB b c = true) : betB a c = true := by
  rw [bet_iff] at *
  omega
theorem Ord_mTrue (a b c : Vc) (w : World) (ha : a.wf) (hb : b.wf) (hx : cmpN a b = -1) (hy : cmpN b a = 1) (hE : decide (a = b) = false) (hp : betB a b = true) (hq : betB b c = true) (hr : betB a c = true) (hcase : a.root < b.root ∨ a.root = b.root ∧ a.cost < b.cost ∨ a.root = b.root ∧ a.cost = b.cost ∧ a.bridge < b.bridge ∨ a.root = b.root ∧ a.cost = b.cost ∧ a.bridge = b.bridge ∧ a.port < b.port) : Calls Try.prog 6 #[.agg a.row, .agg b.row, .agg c.row] w fun r w' => r = .returned (.bool true) ∧ Below w.heap.size w w' := by
  have hO := hide (fun w => orders_any w)
  have k1 := hide (fun w => Compare_any a b w)
  have k2 := hide (fun w => Compare_any b a w)
  have k3 := hide (fun w => Better_any a b w)
  have k4 := hide (fun w => Better_any b c w)
  rw [hq] at k4
  have k5 := hide (fun w => Better_any a c w)
  rw [hr] at k5
  have heq := vec_eql a b ha hb
  have hgd := eqGuard_vec
  rw [hx] at k1
  rw [hy] at k2
  rw [hp] at k3
  rw [hE] at heq
  have hT := hide (Thr.made w a b c 45)
  have hb0 : Below w.heap.size w (((w.alloc (.cells a.row 45)).alloc (.cells b.row 45)).alloc (.cells c.row 45)) := ((below1 _ _).later (below1 _ _)).later (below1 _ _)
  clear hx hy hE hp ha hb hq hr
  obtain ⟨a0, a1, a2, a3⟩ := a
  obtain ⟨b0, b1, b2, b3⟩ := b
  obtain ⟨c0, c1, c2, c3⟩ := c
  replace hcase := hide hcase
  go_enter Try.func6, Try.ntmps6
  go_wp2_with fail
  refine (hO.out _).mono ?_
  rintro e w1 ⟨rfl, hb1⟩
  have hT1 := hide (hT.out.below hb1)
  have hB := hide (hb0.later hb1)
  clear hb0 hb1 hT hO
  obtain ⟨⟨e0, e1, e2, e3, f0, f1, f2, f3⟩, g0, g1, g2, g3⟩ := hT1.out
  dsimp only at *
  go_wp2_with fail
  refine (k1.out _).mono ?_
  rintro e w2 ⟨rfl, hb2⟩
  replace hT1 := hide (hT1.out.below hb2)
  replace hB := hide (hB.out.later hb2)
  clear hb2 e0 e1 e2 e3 f0 f1 f2 f3 g0 g1 g2 g3
  obtain ⟨⟨e0, e1, e2, e3, f0, f1, f2, f3⟩, g0, g1, g2, g3⟩ := hT1.out
  dsimp only at *
  go_wp2_with fail
  refine (k2.out _).mono ?_
  rintro e w3 ⟨rfl, hb2⟩
  replace hT1 := hide (hT1.out.below hb2)
  replace hB := hide (hB.out.later hb2)
  clear hb2 e0 e1 e2 e3 f0 f1 f2 f3 g0 g1 g2 g3
  obtain ⟨⟨e0, e1, e2, e3, f0, f1, f2, f3⟩, g0, g1, g2, g3⟩ := hT1.out
  dsimp only at *
  go_wp2_with fail
  refine (k3.out _).mono ?_
  rintro e w4 ⟨rfl, hb2⟩
  replace hT1 := hide (hT1.out.below hb2)
  replace hB := hide (hB.out.later hb2)
  clear hb2 e0 e1 e2 e3 f0 f1 f2 f3 g0 g1 g2 g3
  obtain ⟨⟨e0, e1, e2, e3, f0, f1, f2, f3⟩, g0, g1, g2, g3⟩ := hT1.out
  dsimp only at *
  go_wp2_with fail
  refine (k3.out _).mono ?_
  rintro e w5 ⟨rfl, hb2⟩
  replace hT1 := hide (hT1.out.below hb2)
  replace hB := hide (hB.out.later hb2)
  clear hb2 e0 e1 e2 e3 f0 f1 f2 f3 g0 g1 g2 g3
  obtain ⟨⟨e0, e1, e2, e3, f0, f1, f2, f3⟩, g0, g1, g2, g3⟩ := hT1.out
  dsimp only at *
  go_wp2_with fail
  refine (k4.out _).mono ?_
  rintro e w6 ⟨rfl, hb2⟩
  replace hT1 := hide (hT1.out.below hb2)
  replace hB := hide (hB.out.later hb2)
  clear hb2 e0 e1 e2 e3 f0 f1 f2 f3 g0 g1 g2 g3
  obtain ⟨⟨e0, e1, e2, e3, f0, f1, f2, f3⟩, g0, g1, g2, g3⟩ := hT1.out
  dsimp only at *
  go_wp2_with fail
  refine (k5.out _).mono ?_
  rintro e w7 ⟨rfl, hb2⟩
  replace hT1 := hide (hT1.out.below hb2)
  replace hB := hide (hB.out.later hb2)
  clear hb2 e0 e1 e2 e3 f0 f1 f2 f3 g0 g1 g2 g3
  obtain ⟨⟨e0, e1, e2, e3, f0, f1, f2, f3⟩, g0, g1, g2, g3⟩ := hT1.out
  dsimp only at *
  rcases hcase.out with h | ⟨rfl, h⟩ | ⟨rfl, rfl, h⟩ | ⟨rfl, rfl, rfl, h⟩
  · have hne : ¬ a0 = b0 := by omega
    go_wp2
    go_ret
    exact ⟨rfl, hB.out⟩
  · have hne : ¬ a1 = b1 := by omega
    go_wp2
    go_ret
    exact ⟨rfl, hB.out⟩
  · have hne : ¬ a2 = b2 := by omega
    go_wp2
    go_ret
    exact ⟨rfl, hB.out⟩
  · have hne : ¬ a3 = b3 := by omega
    go_wp2
    go_ret
    exact ⟨rfl, hB.out⟩
theorem Ord_mFalse (a b c : Vc) (w : World) (ha : a.wf) (hb : b.wf) (hx : cmpN a b = -1) (hy : cmpN b a = 1) (hE : decide (a = b) = false) (hp : betB a b = true) (hq : betB b c = false) (hcase : a.root < b.root ∨ a.root = b.root ∧ a.cost < b.cost ∨ a.root = b.root ∧ a.cost = b.cost ∧ a.bridge < b.bridge ∨ a.root = b.root ∧ a.cost = b.cost ∧ a.bridge = b.bridge ∧ a.port < b.port) : Calls Try.prog 6 #[.agg a.row, .agg b.row, .agg c.row] w fun r w' => r = .returned (.bool true) ∧ Below w.heap.size w w' := by
  have hO := hide (fun w => orders_any w)
  have k1 := hide (fun w => Compare_any a b w)
  have k2 := hide (fun w => Compare_any b a w)
  have k3 := hide (fun w => Better_any a b w)
  have k4 := hide (fun w => Better_any b c w)
  rw [hq] at k4
  have heq := vec_eql a b ha hb
  have hgd := eqGuard_vec
  rw [hx] at k1
  rw [hy] at k2
  rw [hp] at k3
  rw [hE] at heq
  have hT := hide (Thr.made w a b c 45)
  have hb0 : Below w.heap.size w (((w.alloc (.cells a.row 45)).alloc (.cells b.row 45)).alloc (.cells c.row 45)) := ((below1 _ _).later (below1 _ _)).later (below1 _ _)
  clear hx hy hE hp ha hb hq
  obtain ⟨a0, a1, a2, a3⟩ := a
  obtain ⟨b0, b1, b2, b3⟩ := b
  obtain ⟨c0, c1, c2, c3⟩ := c
  replace hcase := hide hcase
  go_enter Try.func6, Try.ntmps6
  go_wp2_with fail
  refine (hO.out _).mono ?_
  rintro e w1 ⟨rfl, hb1⟩
  have hT1 := hide (hT.out.below hb1)
  have hB := hide (hb0.later hb1)
  clear hb0 hb1 hT hO
  obtain ⟨⟨e0, e1, e2, e3, f0, f1, f2, f3⟩, g0, g1, g2, g3⟩ := hT1.out
  dsimp only at *
  go_wp2_with fail
  refine (k1.out _).mono ?_
  rintro e w2 ⟨rfl, hb2⟩
  replace hT1 := hide (hT1.out.below hb2)
  replace hB := hide (hB.out.later hb2)
  clear hb2 e0 e1 e2 e3 f0 f1 f2 f3 g0 g1 g2 g3
  obtain ⟨⟨e0, e1, e2, e3, f0, f1, f2, f3⟩, g0, g1, g2, g3⟩ := hT1.out
  dsimp only at *
  go_wp2_with fail
  refine (k2.out _).mono ?_
  rintro e w3 ⟨rfl, hb2⟩
  replace hT1 := hide (hT1.out.below hb2)
  replace hB := hide (hB.out.later hb2)
  clear hb2 e0 e1 e2 e3 f0 f1 f2 f3 g0 g1 g2 g3
  obtain ⟨⟨e0, e1, e2, e3, f0, f1, f2, f3⟩, g0, g1, g2, g3⟩ := hT1.out
  dsimp only at *
  go_wp2_with fail
  refine (k3.out _).mono ?_
  rintro e w4 ⟨rfl, hb2⟩
  replace hT1 := hide (hT1.out.below hb2)
  replace hB := hide (hB.out.later hb2)
  clear hb2 e0 e1 e2 e3 f0 f1 f2 f3 g0 g1 g2 g3
  obtain ⟨⟨e0, e1, e2, e3, f0, f1, f2, f3⟩, g0, g1, g2, g3⟩ := hT1.out
  dsimp only at *
  go_wp2_with fail
  refine (k3.out _).mono ?_
  rintro e w5 ⟨rfl, hb2⟩
  replace hT1 := hide (hT1.out.below hb2)
  replace hB := hide (hB.out.later hb2)
  clear hb2 e0 e1 e2 e3 f0 f1 f2 f3 g0 g1 g2 g3
  obtain ⟨⟨e0, e1, e2, e3, f0, f1, f2, f3⟩, g0, g1, g2, g3⟩ := hT1.out
  dsimp only at *
  go_wp2_with fail
  refine (k4.out _).mono ?_
  rintro e w6 ⟨rfl, hb2⟩
  replace hT1 := hide (hT1.out.below hb2)
  replace hB := hide (hB.out.later hb2)
  clear hb2 e0 e1 e2 e3 f0 f1 f2 f3 g0 g1 g2 g3
  obtain ⟨⟨e0, e1, e2, e3, f0, f1, f2, f3⟩, g0, g1, g2, g3⟩ := hT1.out
  dsimp only at *
  rcases hcase.out with h | ⟨rfl, h⟩ | ⟨rfl, rfl, h⟩ | ⟨rfl, rfl, rfl, h⟩
  · have hne : ¬ a0 = b0 := by omega
    go_wp2
    go_ret
    exact ⟨rfl, hB.out⟩
  · have hne : ¬ a1 = b1 := by omega
    go_wp2
    go_ret
    exact ⟨rfl, hB.out⟩
  · have hne : ¬ a2 = b2 := by omega
    go_wp2
    go_ret
    exact ⟨rfl, hB.out⟩
  · have hne : ¬ a3 = b3 := by omega
    go_wp2
    go_ret
    exact ⟨rfl, hB.out⟩
theorem Ord_pAny (a b c : Vc) (w : World) (ha : a.wf) (hb : b.wf) (hx : cmpN a b = 1) (hy : cmpN b a = -1) (hE : decide (a = b) = false) (hp : betB a b = false) (hcase : b.root < a.root ∨ a.root = b.root ∧ b.cost < a.cost ∨ a.root = b.root ∧ a.cost = b.cost ∧ b.bridge < a.bridge ∨ a.root = b.root ∧ a.cost = b.cost ∧ a.bridge = b.bridge ∧ b.port < a.port) : Calls Try.prog 6 #[.agg a.row, .agg b.row, .agg c.row] w fun r w' => r = .returned (.bool true) ∧ Below w.heap.size w w' := by
  have hO := hide (fun w => orders_any w)
  have k1 := hide (fun w => Compare_any a b w)
  have k2 := hide (fun w => Compare_any b a w)
  have k3 := hide (fun w => Better_any a b w)
  have heq := vec_eql a b ha hb
  have hgd := eqGuard_vec
  rw [hx] at k1
  rw [hy] at k2
  rw [hp] at k3
  rw [hE] at heq
  have hT := hide (Thr.made w a b c 45)
  have hb0 : Below w.heap.size w (((w.alloc (.cells a.row 45)).alloc (.cells b.row 45)).alloc (.cells c.row 45)) := ((below1 _ _).later (below1 _ _)).later (below1 _ _)
  clear hx hy hE hp ha hb
  obtain ⟨a0, a1, a2, a3⟩ := a
  obtain ⟨b0, b1, b2, b3⟩ := b
  obtain ⟨c0, c1, c2, c3⟩ := c
  replace hcase := hide hcase
  go_enter Try.func6, Try.ntmps6
  go_wp2_with fail
  refine (hO.out _).mono ?_
  rintro e w1 ⟨rfl, hb1⟩
  have hT1 := hide (hT.out.below hb1)
  have hB := hide (hb0.later hb1)
  clear hb0 hb1 hT hO
  obtain ⟨⟨e0, e1, e2, e3, f0, f1, f2, f3⟩, g0, g1, g2, g3⟩ := hT1.out
  dsimp only at *
  go_wp2_with fail
  refine (k1.out _).mono ?_
  rintro e w2 ⟨rfl, hb2⟩
  replace hT1 := hide (hT1.out.below hb2)
  replace hB := hide (hB.out.later hb2)
  clear hb2 e0 e1 e2 e3 f0 f1 f2 f3 g0 g1 g2 g3
  obtain ⟨⟨e0, e1, e2, e3, f0, f1, f2, f3⟩, g0, g1, g2, g3⟩ := hT1.out
  dsimp only at *
  go_wp2_with fail
  refine (k2.out _).mono ?_
  rintro e w3 ⟨rfl, hb2⟩
  replace hT1 := hide (hT1.out.below hb2)
  replace hB := hide (hB.out.later hb2)
  clear hb2 e0 e1 e2 e3 f0 f1 f2 f3 g0 g1 g2 g3
  obtain ⟨⟨e0, e1, e2, e3, f0, f1, f2, f3⟩, g0, g1, g2, g3⟩ := hT1.out
  dsimp only at *
  go_wp2_with fail
  refine (k3.out _).mono ?_
  rintro e w4 ⟨rfl, hb2⟩
  replace hT1 := hide (hT1.out.below hb2)
  replace hB := hide (hB.out.later hb2)
  clear hb2 e0 e1 e2 e3 f0 f1 f2 f3 g0 g1 g2 g3
  obtain ⟨⟨e0, e1, e2, e3, f0, f1, f2, f3⟩, g0, g1, g2, g3⟩ := hT1.out
  dsimp only at *
  go_wp2_with fail
  refine (k3.out _).mono ?_
  rintro e w5 ⟨rfl, hb2⟩
  replace hT1 := hide (hT1.out.below hb2)
  replace hB := hide (hB.out.later hb2)
  clear hb2 e0 e1 e2 e3 f0 f1 f2 f3 g0 g1 g2 g3
  obtain ⟨⟨e0, e1, e2, e3, f0, f1, f2, f3⟩, g0, g1, g2, g3⟩ := hT1.out
  dsimp only at *
  rcases hcase.out with h | ⟨rfl, h⟩ | ⟨rfl, rfl, h⟩ | ⟨rfl, rfl, rfl, h⟩
  · have hne : ¬ a0 = b0 := by omega
    have hnl : ¬ a0 < b0 := by omega
    go_wp2
    go_ret
    exact ⟨rfl, hB.out⟩
  · have hne : ¬ a1 = b1 := by omega
    have hnl : ¬ a1 < b1 := by omega
    go_wp2
    go_ret
    exact ⟨rfl, hB.out⟩
  · have hne : ¬ a2 = b2 := by omega
    have hnl : ¬ a2 < b2 := by omega
    go_wp2
    go_ret
    exact ⟨rfl, hB.out⟩
  · have hne : ¬ a3 = b3 := by omega
    have hnl : ¬ a3 < b3 := by omega
    go_wp2
    go_ret
    exact ⟨rfl, hB.out⟩
theorem Ord_zAny (a b c : Vc) (w : World) (ha : a.wf) (hb : b.wf) (hx : cmpN a b = 0) (hy : cmpN b a = 0) (hE : decide (a = b) = true) (hp : betB a b = false) (hcase : a.root = b.root ∧ a.cost = b.cost ∧ a.bridge = b.bridge ∧ a.port = b.port) : Calls Try.prog 6 #[.agg a.row, .agg b.row, .agg c.row] w fun r w' => r = .returned (.bool true) ∧ Below w.heap.size w w' := by
  have hO := hide (fun w => orders_any w)
  have k1 := hide (fun w => Compare_any a b w)
  have k2 := hide (fun w => Compare_any b a w)
  have k3 := hide (fun w => Better_any a b w)
  have heq := vec_eql a b ha hb
  have hgd := eqGuard_vec
  rw [hx] at k1
  rw [hy] at k2
  rw [hp] at k3
  rw [hE] at heq
  have hT := hide (Thr.made w a b c 45)
  have hb0 : Below w.heap.size w (((w.alloc (.cells a.row 45)).alloc (.cells b.row 45)).alloc (.cells c.row 45)) := ((below1 _ _).later (below1 _ _)).later (below1 _ _)
  clear hx hy hE hp ha hb
  obtain ⟨a0, a1, a2, a3⟩ := a
  obtain ⟨b0, b1, b2, b3⟩ := b
  obtain ⟨c0, c1, c2, c3⟩ := c
  replace hcase := hide hcase
  go_enter Try.func6, Try.ntmps6
  go_wp2_with fail
  refine (hO.out _).mono ?_
  rintro e w1 ⟨rfl, hb1⟩
  have hT1 := hide (hT.out.below hb1)
  have hB := hide (hb0.later hb1)
  clear hb0 hb1 hT hO
  obtain ⟨⟨e0, e1, e2, e3, f0, f1, f2, f3⟩, g0, g1, g2, g3⟩ := hT1.out
  dsimp only at *
  go_wp2_with fail
  refine (k1.out _).mono ?_
  rintro e w2 ⟨rfl, hb2⟩
  replace hT1 := hide (hT1.out.below hb2)
  replace hB := hide (hB.out.later hb2)
  clear hb2 e0 e1 e2 e3 f0 f1 f2 f3 g0 g1 g2 g3
  obtain ⟨⟨e0, e1, e2, e3, f0, f1, f2, f3⟩, g0, g1, g2, g3⟩ := hT1.out
  dsimp only at *
  go_wp2_with fail
  refine (k2.out _).mono ?_
  rintro e w3 ⟨rfl, hb2⟩
  replace hT1 := hide (hT1.out.below hb2)
  replace hB := hide (hB.out.later hb2)
  clear hb2 e0 e1 e2 e3 f0 f1 f2 f3 g0 g1 g2 g3
  obtain ⟨⟨e0, e1, e2, e3, f0, f1, f2, f3⟩, g0, g1, g2, g3⟩ := hT1.out
  dsimp only at *
  go_wp2_with fail
  refine (k3.out _).mono ?_
  rintro e w4 ⟨rfl, hb2⟩
  replace hT1 := hide (hT1.out.below hb2)
  replace hB := hide (hB.out.later hb2)
  clear hb2 e0 e1 e2 e3 f0 f1 f2 f3 g0 g1 g2 g3
  obtain ⟨⟨e0, e1, e2, e3, f0, f1, f2, f3⟩, g0, g1, g2, g3⟩ := hT1.out
  dsimp only at *
  go_wp2_with fail
  refine (k3.out _).mono ?_
  rintro e w5 ⟨rfl, hb2⟩
  replace hT1 := hide (hT1.out.below hb2)
  replace hB := hide (hB.out.later hb2)
  clear hb2 e0 e1 e2 e3 f0 f1 f2 f3 g0 g1 g2 g3
  obtain ⟨⟨e0, e1, e2, e3, f0, f1, f2, f3⟩, g0, g1, g2, g3⟩ := hT1.out
  dsimp only at *
  obtain ⟨rfl, rfl, rfl, rfl⟩ := hcase.out
  go_wp2
  go_ret
  exact ⟨rfl, hB.out⟩
theorem Ord_walk (a b c : Vc) (w : World) (ha : a.wf) (hb : b.wf) : Calls Try.prog 6 #[.agg a.row, .agg b.row, .agg c.row] w fun r w' => r = .returned (.bool true) ∧ Below w.heap.size w w' := by
  rcases cmp_cases a b with ⟨h, h1, h2⟩ | ⟨h, h1, h2⟩ | ⟨h, h1, h2⟩
  · have hp : betB a b = true := by simp [betB, h]
    have hE : decide (a = b) = false := decide_eq_false (by rintro rfl; omega)
    cases hq : betB b c
    · exact Ord_mFalse a b c w ha hb h h1 hE hp hq h2
    · exact Ord_mTrue a b c w ha hb h h1 hE hp hq (bet_trans a b c hp hq) h2
  · exact Ord_pAny a b c w ha hb h h1 (decide_eq_false (by rintro rfl; omega)) (by simp [betB, h]) h2
  · refine Ord_zAny a b c w ha hb h h1 (decide_eq_true ?_) (by simp [betB, h]) h2
    obtain ⟨a0, a1, a2, a3⟩ := a
    obtain ⟨b0, b1, b2, b3⟩ := b
    obtain ⟨rfl, rfl, rfl, rfl⟩ := h2
    rfl
end Go.Proofs.Ytjfjohbibkidhaa
