/-
  A contract of bpdu.readRoot. Conditions: those that each theorem names.
-/
import Derived.Test.YtmakaadmjgakaaaDoorBq1
namespace Go.Proofs.YtmakaadmjgakaaaDoor
open Go.RowKit
set_option linter.unusedVariables false

/-- What Config and Rapid messages both tell, out of bytes from the flags on. -/
@[reducible] def Bp.rooted (b : Bp) (l : List Int) : Bp := { b with change := bitB (num (l.take 1)) 0, ack := bitB (num (l.take 1)) 7, root := num ((l.drop 1).take 8), cost := num ((l.drop 9).take 4), bridge := num ((l.drop 13).take 8), port := num ((l.drop 21).take 2), age := num ((l.drop 23).take 2), maxAge := num ((l.drop 25).take 2), hello := num ((l.drop 27).take 2), delay := num ((l.drop 29).take 2) }
set_option maxRecDepth 20000 in
set_option maxHeartbeats 1000000 in
theorem readRoot_any {w : World} {g B : Nat} {b : Bp} {l : List Int} (hk : w.heap[B]? = some (.cells b.row 41 (0, 0))) (hR : RdB w g B l 0) (hB : B < g) (hl : 31 ≤ l.length) (hm : l.length ≤ 1000000) :
    Calls Tryd.prog 46 #[.pointer (some ⟨B, 0, none⟩), .pointer (some ⟨g, 0, none⟩)] w fun e w' => e = .returned (.tuple #[]) ∧ w'.heap[B]? = some (.cells (b.rooted l).row 41 (0, 0)) ∧ Below B w w' := by
  have hby := hR.byte
  have bd : ∀ i k, k ≤ 8 → 0 ≤ num ((l.drop i).take k) ∧ num ((l.drop i).take k) < 256 ^ k := by
    intro i k hk
    have h1 := num_bound ((l.drop i).take k) ((hby.drop i).take k)
    refine ⟨h1.1, Int.lt_of_lt_of_le h1.2 ?_⟩
    exact_mod_cast Nat.pow_le_pow_right (by decide) (by simp; omega)
  obtain ⟨F, hF⟩ : ∃ F, F = num (l.take 1) := ⟨_, rfl⟩
  have f0 : 0 ≤ F ∧ F < 256 := by rw [hF]; simpa using bd 0 1 (by decide)
  obtain ⟨X1, hX1⟩ : ∃ X, X = num ((l.drop 1).take 8) := ⟨_, rfl⟩
  obtain ⟨X2, hX2⟩ : ∃ X, X = num ((l.drop 9).take 4) := ⟨_, rfl⟩
  obtain ⟨X3, hX3⟩ : ∃ X, X = num ((l.drop 13).take 8) := ⟨_, rfl⟩
  obtain ⟨X4, hX4⟩ : ∃ X, X = num ((l.drop 21).take 2) := ⟨_, rfl⟩
  have x4 : 0 ≤ X4 ∧ X4 < 65536 := by rw [hX4]; simpa using bd 21 2 (by decide)
  obtain ⟨y4, z4⟩ := x4
  have z4' : X4 ≤ 65535 := by omega
  clear z4
  obtain ⟨X12, hX12⟩ : ∃ X, X = num ((l.drop 23).take 2) := ⟨_, rfl⟩
  have x12 : 0 ≤ X12 ∧ X12 < 65536 := by rw [hX12]; simpa using bd 23 2 (by decide)
  obtain ⟨y12, z12⟩ := x12
  have z12' : X12 ≤ 65535 := by omega
  clear z12
  obtain ⟨X13, hX13⟩ : ∃ X, X = num ((l.drop 25).take 2) := ⟨_, rfl⟩
  have x13 : 0 ≤ X13 ∧ X13 < 65536 := by rw [hX13]; simpa using bd 25 2 (by decide)
  obtain ⟨y13, z13⟩ := x13
  have z13' : X13 ≤ 65535 := by omega
  clear z13
  obtain ⟨X14, hX14⟩ : ∃ X, X = num ((l.drop 27).take 2) := ⟨_, rfl⟩
  have x14 : 0 ≤ X14 ∧ X14 < 65536 := by rw [hX14]; simpa using bd 27 2 (by decide)
  obtain ⟨y14, z14⟩ := x14
  have z14' : X14 ≤ 65535 := by omega
  clear z14
  obtain ⟨X15, hX15⟩ : ∃ X, X = num ((l.drop 29).take 2) := ⟨_, rfl⟩
  have x15 : 0 ≤ X15 ∧ X15 < 65536 := by rw [hX15]; simpa using bd 29 2 (by decide)
  obtain ⟨y15, z15⟩ := x15
  have z15' : X15 ≤ 65535 := by omega
  clear z15
  have t0 : Hid (∀ w, Calls Tryd.prog 67 #[.int .u64 F, .int .i64 0] w fun e w' => e = .returned (.bool (bitB F 0)) ∧ w' = w) := fun w => Bit_at F 0 w f0.1 (by omega) (by decide)
  have t7 : Hid (∀ w, Calls Tryd.prog 67 #[.int .u64 F, .int .i64 7] w fun e w' => e = .returned (.bool (bitB F 7)) ∧ w' = w) := fun w => Bit_at F 7 w f0.1 (by omega) (by decide)
  have hH : Hid (b.rooted l = { b with change := bitB F 0, ack := bitB F 7, root := X1, cost := X2, bridge := X3, port := X4, age := X12, maxAge := X13, hello := X14, delay := X15 }) := by
    show b.rooted l = _
    rw [hF, hX1, hX2, hX3, hX4, hX12, hX13, hX14, hX15]
  have n0 : Hid (∀ w, RdB w g B l 0 → Calls Tryd.prog 63 #[.pointer (some ⟨g, 0, none⟩), .int .i64 1] w fun e w' => e = .returned (.int .u64 F) ∧ RdB w' g B (l.drop 1) 0 ∧ w'.heap[B]? = w.heap[B]? ∧ Below B w w') := fun w h => by rw [hF]; exact RNumber_okB h hB 1 (by omega) (by decide) (by decide) (by omega)
  have n1 : Hid (∀ w, RdB w g B (l.drop 1) 0 → Calls Tryd.prog 63 #[.pointer (some ⟨g, 0, none⟩), .int .i64 8] w fun e w' => e = .returned (.int .u64 X1) ∧ RdB w' g B (l.drop 9) 0 ∧ w'.heap[B]? = w.heap[B]? ∧ Below B w w') := fun w h => by
    have := RNumber_okB h hB 8 (by simp; omega) (by decide) (by decide) (by simp; omega)
    rw [List.drop_drop, ← hX1] at this
    exact this
  have n2 : Hid (∀ w, RdB w g B (l.drop 9) 0 → Calls Tryd.prog 63 #[.pointer (some ⟨g, 0, none⟩), .int .i64 4] w fun e w' => e = .returned (.int .u64 X2) ∧ RdB w' g B (l.drop 13) 0 ∧ w'.heap[B]? = w.heap[B]? ∧ Below B w w') := fun w h => by
    have := RNumber_okB h hB 4 (by simp; omega) (by decide) (by decide) (by simp; omega)
    rw [List.drop_drop, ← hX2] at this
    exact this
  have n3 : Hid (∀ w, RdB w g B (l.drop 13) 0 → Calls Tryd.prog 63 #[.pointer (some ⟨g, 0, none⟩), .int .i64 8] w fun e w' => e = .returned (.int .u64 X3) ∧ RdB w' g B (l.drop 21) 0 ∧ w'.heap[B]? = w.heap[B]? ∧ Below B w w') := fun w h => by
    have := RNumber_okB h hB 8 (by simp; omega) (by decide) (by decide) (by simp; omega)
    rw [List.drop_drop, ← hX3] at this
    exact this
  have n4 : Hid (∀ w, RdB w g B (l.drop 21) 0 → Calls Tryd.prog 63 #[.pointer (some ⟨g, 0, none⟩), .int .i64 2] w fun e w' => e = .returned (.int .u64 X4) ∧ RdB w' g B (l.drop 23) 0 ∧ w'.heap[B]? = w.heap[B]? ∧ Below B w w') := fun w h => by
    have := RNumber_okB h hB 2 (by simp; omega) (by decide) (by decide) (by simp; omega)
    rw [List.drop_drop, ← hX4] at this
    exact this
  have n12 : Hid (∀ w, RdB w g B (l.drop 23) 0 → Calls Tryd.prog 63 #[.pointer (some ⟨g, 0, none⟩), .int .i64 2] w fun e w' => e = .returned (.int .u64 X12) ∧ RdB w' g B (l.drop 25) 0 ∧ w'.heap[B]? = w.heap[B]? ∧ Below B w w') := fun w h => by
    have := RNumber_okB h hB 2 (by simp; omega) (by decide) (by decide) (by simp; omega)
    rw [List.drop_drop, ← hX12] at this
    exact this
  have n13 : Hid (∀ w, RdB w g B (l.drop 25) 0 → Calls Tryd.prog 63 #[.pointer (some ⟨g, 0, none⟩), .int .i64 2] w fun e w' => e = .returned (.int .u64 X13) ∧ RdB w' g B (l.drop 27) 0 ∧ w'.heap[B]? = w.heap[B]? ∧ Below B w w') := fun w h => by
    have := RNumber_okB h hB 2 (by simp; omega) (by decide) (by decide) (by simp; omega)
    rw [List.drop_drop, ← hX13] at this
    exact this
  have n14 : Hid (∀ w, RdB w g B (l.drop 27) 0 → Calls Tryd.prog 63 #[.pointer (some ⟨g, 0, none⟩), .int .i64 2] w fun e w' => e = .returned (.int .u64 X14) ∧ RdB w' g B (l.drop 29) 0 ∧ w'.heap[B]? = w.heap[B]? ∧ Below B w w') := fun w h => by
    have := RNumber_okB h hB 2 (by simp; omega) (by decide) (by decide) (by simp; omega)
    rw [List.drop_drop, ← hX14] at this
    exact this
  have n15 : Hid (∀ w, RdB w g B (l.drop 29) 0 → Calls Tryd.prog 63 #[.pointer (some ⟨g, 0, none⟩), .int .i64 2] w fun e w' => e = .returned (.int .u64 X15) ∧ RdB w' g B (l.drop 31) 0 ∧ w'.heap[B]? = w.heap[B]? ∧ Below B w w') := fun w h => by
    have := RNumber_okB h hB 2 (by simp; omega) (by decide) (by decide) (by simp; omega)
    rw [List.drop_drop, ← hX15] at this
    exact this
  generalize b.rooted l = H at *
  clear bd hF hX1 hX2 hX3 hX4 hX12 hX13 hX14 hX15 hby hl hm f0
  have HR := hide hR
  have HK := hide hk
  clear hR hk
  generalize bitB F 0 = T0 at *
  generalize bitB F 7 = T7 at *
  generalize l.drop 1 = L1 at *
  generalize l.drop 9 = L2 at *
  generalize l.drop 13 = L3 at *
  generalize l.drop 21 = L4 at *
  generalize l.drop 23 = L5 at *
  generalize l.drop 25 = L6 at *
  generalize l.drop 27 = L7 at *
  generalize l.drop 29 = L8 at *
  generalize l.drop 31 = L9 at *
  go_enter Tryd.func46, Tryd.ntmps46
  go_wp2_with fail
  refine (n0.out _ HR.out).mono ?_
  rintro e w1 ⟨rfl, hR1, hk1, hb1⟩
  have hG1 := hide hb1
  have HK1 := hide (hk1.trans HK.out)
  have HR1 := hide hR1
  clear hR1 hk1 hb1 HK HR n0
  go_wp2_with fail
  refine (t0.out _).mono ?_
  rintro e w1' ⟨rfl, h⟩
  obtain rfl := h.symm
  have c5 : w1.cell? ⟨B, 5, none⟩ = some (.bool b.change) := by rw [cell_of_row _ _ _ _ _ _ HK1.out]; rfl
  have f5 := frozen_of_row w1 B 5 _ _ HK1.out
  go_wp2_with fail
  have HK2 : Hid ((w1.setCell ⟨B, 5, none⟩ (.bool T0)).heap[B]? = some (.cells (Bp.row { b with change := T0 }) 41 (0, 0))) := heap_setCell_same w1 B 5 _ _ (.bool T0) HK1.out
  have HR2 := hide (HR1.out.set hB 5 (.bool T0))
  have hG2 : Hid (Below B w (w1.setCell ⟨B, 5, none⟩ (.bool T0))) := hG1.out.setCell (p := ⟨B, 5, none⟩) (Nat.le_refl _) _
  clear HK1 HR1 hG1 c5 f5
  generalize w1.setCell ⟨B, 5, none⟩ (.bool T0) = w2 at *
  refine (t7.out _).mono ?_
  rintro e w1'' ⟨rfl, h⟩
  obtain rfl := h.symm
  have c6 : w2.cell? ⟨B, 6, none⟩ = some (.bool b.ack) := by rw [cell_of_row _ _ _ _ _ _ HK2.out]; rfl
  have f6 := frozen_of_row w2 B 6 _ _ HK2.out
  go_wp2_with fail
  have HK3 : Hid ((w2.setCell ⟨B, 6, none⟩ (.bool T7)).heap[B]? = some (.cells (Bp.row { b with change := T0, ack := T7 }) 41 (0, 0))) := heap_setCell_same w2 B 6 _ _ (.bool T7) HK2.out
  have HR3 := hide (HR2.out.set hB 6 (.bool T7))
  have hG3 : Hid (Below B w (w2.setCell ⟨B, 6, none⟩ (.bool T7))) := hG2.out.setCell (p := ⟨B, 6, none⟩) (Nat.le_refl _) _
  clear HK2 HR2 hG2 c6 f6
  generalize w2.setCell ⟨B, 6, none⟩ (.bool T7) = w3 at *
  refine (n1.out _ HR3.out).mono ?_
  rintro e w4 ⟨rfl, hR4, hk4, hb4⟩
  have hG4 := hide (hG3.out.trans hb4)
  have HK4 := hide (hk4.trans HK3.out)
  have HR4 := hide hR4
  clear hR4 hk4 hb4 HK3 HR3 hG3 n1
  have c1 : w4.cell? ⟨B, 1, none⟩ = some (.int .u64 b.root) := by rw [cell_of_row _ _ _ _ _ _ HK4.out]; rfl
  have f1 := frozen_of_row w4 B 1 _ _ HK4.out
  go_wp2_with fail
  have HK5 : Hid ((w4.setCell ⟨B, 1, none⟩ (.int .u64 X1)).heap[B]? = some (.cells (Bp.row { b with change := T0, ack := T7, root := X1 }) 41 (0, 0))) := heap_setCell_same w4 B 1 _ _ (.int .u64 X1) HK4.out
  have HR5 := hide (HR4.out.set hB 1 (.int .u64 X1))
  have hG5 : Hid (Below B w (w4.setCell ⟨B, 1, none⟩ (.int .u64 X1))) := hG4.out.setCell (p := ⟨B, 1, none⟩) (Nat.le_refl _) _
  clear HK4 HR4 hG4 c1 f1
  generalize w4.setCell ⟨B, 1, none⟩ (.int .u64 X1) = w5 at *
  refine (n2.out _ HR5.out).mono ?_
  rintro e w6 ⟨rfl, hR6, hk6, hb6⟩
  have hG6 := hide (hG5.out.trans hb6)
  have HK6 := hide (hk6.trans HK5.out)
  have HR6 := hide hR6
  clear hR6 hk6 hb6 HK5 HR5 hG5 n2
  have c2 : w6.cell? ⟨B, 2, none⟩ = some (.int .u64 b.cost) := by rw [cell_of_row _ _ _ _ _ _ HK6.out]; rfl
  have f2 := frozen_of_row w6 B 2 _ _ HK6.out
  go_wp2_with fail
  have HK7 : Hid ((w6.setCell ⟨B, 2, none⟩ (.int .u64 X2)).heap[B]? = some (.cells (Bp.row { b with change := T0, ack := T7, root := X1, cost := X2 }) 41 (0, 0))) := heap_setCell_same w6 B 2 _ _ (.int .u64 X2) HK6.out
  have HR7 := hide (HR6.out.set hB 2 (.int .u64 X2))
  have hG7 : Hid (Below B w (w6.setCell ⟨B, 2, none⟩ (.int .u64 X2))) := hG6.out.setCell (p := ⟨B, 2, none⟩) (Nat.le_refl _) _
  clear HK6 HR6 hG6 c2 f2
  generalize w6.setCell ⟨B, 2, none⟩ (.int .u64 X2) = w7 at *
  refine (n3.out _ HR7.out).mono ?_
  rintro e w8 ⟨rfl, hR8, hk8, hb8⟩
  have hG8 := hide (hG7.out.trans hb8)
  have HK8 := hide (hk8.trans HK7.out)
  have HR8 := hide hR8
  clear hR8 hk8 hb8 HK7 HR7 hG7 n3
  have c3 : w8.cell? ⟨B, 3, none⟩ = some (.int .u64 b.bridge) := by rw [cell_of_row _ _ _ _ _ _ HK8.out]; rfl
  have f3 := frozen_of_row w8 B 3 _ _ HK8.out
  go_wp2_with fail
  have HK9 : Hid ((w8.setCell ⟨B, 3, none⟩ (.int .u64 X3)).heap[B]? = some (.cells (Bp.row { b with change := T0, ack := T7, root := X1, cost := X2, bridge := X3 }) 41 (0, 0))) := heap_setCell_same w8 B 3 _ _ (.int .u64 X3) HK8.out
  have HR9 := hide (HR8.out.set hB 3 (.int .u64 X3))
  have hG9 : Hid (Below B w (w8.setCell ⟨B, 3, none⟩ (.int .u64 X3))) := hG8.out.setCell (p := ⟨B, 3, none⟩) (Nat.le_refl _) _
  clear HK8 HR8 hG8 c3 f3
  generalize w8.setCell ⟨B, 3, none⟩ (.int .u64 X3) = w9 at *
  refine (n4.out _ HR9.out).mono ?_
  rintro e w10 ⟨rfl, hR10, hk10, hb10⟩
  have hG10 := hide (hG9.out.trans hb10)
  have HK10 := hide (hk10.trans HK9.out)
  have HR10 := hide hR10
  clear hR10 hk10 hb10 HK9 HR9 hG9 n4
  have c4 : w10.cell? ⟨B, 4, none⟩ = some (.int .i64 b.port) := by rw [cell_of_row _ _ _ _ _ _ HK10.out]; rfl
  have f4 := frozen_of_row w10 B 4 _ _ HK10.out
  go_wp2_with fail
  have HK11 : Hid ((w10.setCell ⟨B, 4, none⟩ (.int .i64 X4)).heap[B]? = some (.cells (Bp.row { b with change := T0, ack := T7, root := X1, cost := X2, bridge := X3, port := X4 }) 41 (0, 0))) := heap_setCell_same w10 B 4 _ _ (.int .i64 X4) HK10.out
  have HR11 := hide (HR10.out.set hB 4 (.int .i64 X4))
  have hG11 : Hid (Below B w (w10.setCell ⟨B, 4, none⟩ (.int .i64 X4))) := hG10.out.setCell (p := ⟨B, 4, none⟩) (Nat.le_refl _) _
  clear HK10 HR10 hG10 c4 f4
  generalize w10.setCell ⟨B, 4, none⟩ (.int .i64 X4) = w11 at *
  refine (n12.out _ HR11.out).mono ?_
  rintro e w12 ⟨rfl, hR12, hk12, hb12⟩
  have hG12 := hide (hG11.out.trans hb12)
  have HK12 := hide (hk12.trans HK11.out)
  have HR12 := hide hR12
  clear hR12 hk12 hb12 HK11 HR11 hG11 n12
  have c12 : w12.cell? ⟨B, 12, none⟩ = some (.int .i64 b.age) := by rw [cell_of_row _ _ _ _ _ _ HK12.out]; rfl
  have f12 := frozen_of_row w12 B 12 _ _ HK12.out
  go_wp2_with fail
  have HK13 : Hid ((w12.setCell ⟨B, 12, none⟩ (.int .i64 X12)).heap[B]? = some (.cells (Bp.row { b with change := T0, ack := T7, root := X1, cost := X2, bridge := X3, port := X4, age := X12 }) 41 (0, 0))) := heap_setCell_same w12 B 12 _ _ (.int .i64 X12) HK12.out
  have HR13 := hide (HR12.out.set hB 12 (.int .i64 X12))
  have hG13 : Hid (Below B w (w12.setCell ⟨B, 12, none⟩ (.int .i64 X12))) := hG12.out.setCell (p := ⟨B, 12, none⟩) (Nat.le_refl _) _
  clear HK12 HR12 hG12 c12 f12
  generalize w12.setCell ⟨B, 12, none⟩ (.int .i64 X12) = w13 at *
  refine (n13.out _ HR13.out).mono ?_
  rintro e w14 ⟨rfl, hR14, hk14, hb14⟩
  have hG14 := hide (hG13.out.trans hb14)
  have HK14 := hide (hk14.trans HK13.out)
  have HR14 := hide hR14
  clear hR14 hk14 hb14 HK13 HR13 hG13 n13
  have c13 : w14.cell? ⟨B, 13, none⟩ = some (.int .i64 b.maxAge) := by rw [cell_of_row _ _ _ _ _ _ HK14.out]; rfl
  have f13 := frozen_of_row w14 B 13 _ _ HK14.out
  go_wp2_with fail
  have HK15 : Hid ((w14.setCell ⟨B, 13, none⟩ (.int .i64 X13)).heap[B]? = some (.cells (Bp.row { b with change := T0, ack := T7, root := X1, cost := X2, bridge := X3, port := X4, age := X12, maxAge := X13 }) 41 (0, 0))) := heap_setCell_same w14 B 13 _ _ (.int .i64 X13) HK14.out
  have HR15 := hide (HR14.out.set hB 13 (.int .i64 X13))
  have hG15 : Hid (Below B w (w14.setCell ⟨B, 13, none⟩ (.int .i64 X13))) := hG14.out.setCell (p := ⟨B, 13, none⟩) (Nat.le_refl _) _
  clear HK14 HR14 hG14 c13 f13
  generalize w14.setCell ⟨B, 13, none⟩ (.int .i64 X13) = w15 at *
  refine (n14.out _ HR15.out).mono ?_
  rintro e w16 ⟨rfl, hR16, hk16, hb16⟩
  have hG16 := hide (hG15.out.trans hb16)
  have HK16 := hide (hk16.trans HK15.out)
  have HR16 := hide hR16
  clear hR16 hk16 hb16 HK15 HR15 hG15 n14
  have c14 : w16.cell? ⟨B, 14, none⟩ = some (.int .i64 b.hello) := by rw [cell_of_row _ _ _ _ _ _ HK16.out]; rfl
  have f14 := frozen_of_row w16 B 14 _ _ HK16.out
  go_wp2_with fail
  have HK17 : Hid ((w16.setCell ⟨B, 14, none⟩ (.int .i64 X14)).heap[B]? = some (.cells (Bp.row { b with change := T0, ack := T7, root := X1, cost := X2, bridge := X3, port := X4, age := X12, maxAge := X13, hello := X14 }) 41 (0, 0))) := heap_setCell_same w16 B 14 _ _ (.int .i64 X14) HK16.out
  have HR17 := hide (HR16.out.set hB 14 (.int .i64 X14))
  have hG17 : Hid (Below B w (w16.setCell ⟨B, 14, none⟩ (.int .i64 X14))) := hG16.out.setCell (p := ⟨B, 14, none⟩) (Nat.le_refl _) _
  clear HK16 HR16 hG16 c14 f14
  generalize w16.setCell ⟨B, 14, none⟩ (.int .i64 X14) = w17 at *
  refine (n15.out _ HR17.out).mono ?_
  rintro e w18 ⟨rfl, hR18, hk18, hb18⟩
  have hG18 := hide (hG17.out.trans hb18)
  have HK18 := hide (hk18.trans HK17.out)
  have HR18 := hide hR18
  clear hR18 hk18 hb18 HK17 HR17 hG17 n15
  have c15 : w18.cell? ⟨B, 15, none⟩ = some (.int .i64 b.delay) := by rw [cell_of_row _ _ _ _ _ _ HK18.out]; rfl
  have f15 := frozen_of_row w18 B 15 _ _ HK18.out
  go_wp2_with fail
  go_end0
  have HK19 : Hid ((w18.setCell ⟨B, 15, none⟩ (.int .i64 X15)).heap[B]? = some (.cells (Bp.row { b with change := T0, ack := T7, root := X1, cost := X2, bridge := X3, port := X4, age := X12, maxAge := X13, hello := X14, delay := X15 }) 41 (0, 0))) := heap_setCell_same w18 B 15 _ _ (.int .i64 X15) HK18.out
  have HR19 := hide (HR18.out.set hB 15 (.int .i64 X15))
  have hG19 : Hid (Below B w (w18.setCell ⟨B, 15, none⟩ (.int .i64 X15))) := hG18.out.setCell (p := ⟨B, 15, none⟩) (Nat.le_refl _) _
  clear HK18 HR18 hG18 c15 f15
  generalize w18.setCell ⟨B, 15, none⟩ (.int .i64 X15) = w19 at *
  refine ⟨rfl, ?_, hG19.out⟩
  rw [HK19.out, hH.out]
end Go.Proofs.YtmakaadmjgakaaaDoor
