/-
  The statement BpduChecks, walked. Condition: the table lies as the program's text lays it ('Tab').
-/
import Derived.Test.YtiimppbfigikfaaDoorLBc1
namespace Go.Proofs.YtiimppbfigikfaaDoor
open Go.RowKit
set_option linter.unusedVariables false

set_option maxRecDepth 20000 in
set_option maxHeartbeats 1000000 in
theorem BK10 (root cost bridge port role age maxAge hello delay : Int) (change ack proposal agreement learning forwarding : Bool) (w : World) (hT : Tab w) (hW : (Bp.mk 1 root cost bridge port change ack proposal agreement learning forwarding role age maxAge hello delay).wf) (d0 : decide (role < 0) = true) (hE : bcheckE (Bp.mk 1 root cost bridge port change ack proposal agreement learning forwarding role age maxAge hello delay) = 1) :
    Calls Tryd.prog 13 #[.agg (Bp.mk 1 root cost bridge port change ack proposal agreement learning forwarding role age maxAge hello delay).row] w fun e w' => e = .returned (.bool true) ∧ Below w.heap.size w w' := by
  have hC := hide (fun w => BCheck_any (Bp.mk 1 root cost bridge port change ack proposal agreement learning forwarding role age maxAge hello delay) w hW)
  rw [hE] at hC
  have HW := hide hW
  have hF := hide (fun w hT => tells_any w hT)
  have HT := hide hT
  have hk := heap_alloc_new w (.cells (Bp.row (Bp.mk 1 root cost bridge port change ack proposal agreement learning forwarding role age maxAge hello delay)) 55)
  clear hT hW hE
  go_enter Tryd.func13, Tryd.ntmps13
  go_wp2_with fail
  refine (hF.out _ (HT.out.later (below1 _ _))).mono ?_
  rintro e w1 ⟨rfl, hb1⟩
  have hk1 := heap_kept hb1 hk
  have hW1 := hide ((below1 w _).later hb1)
  clear hb1 hk hF
  go_wp2_with ((with_reducible change wpList _ _ _ _ _ _); refine wpList_load_row rfl 55 (.tmp 1) rfl w.heap.size rfl 55 _ _ _ hk1 Tryd.underlying55 rfl (bpSize _) ?_)
  refine (hC.out _).mono ?_
  rintro e w2 ⟨rfl, hb2⟩
  have hk2 := heap_kept hb2 hk1
  have hW2 := hide (hW1.out.later hb2)
  have c0 : w2.cell? ⟨w.heap.size, 0, none⟩ = some (.int .i64 1) := (cell_of_row _ _ _ _ _ _ hk2).trans rfl
  have c2 : w2.cell? ⟨w.heap.size, 2, none⟩ = some (.int .u64 cost) := (cell_of_row _ _ _ _ _ _ hk2).trans rfl
  have c4 : w2.cell? ⟨w.heap.size, 4, none⟩ = some (.int .i64 port) := (cell_of_row _ _ _ _ _ _ hk2).trans rfl
  have c7 : w2.cell? ⟨w.heap.size, 7, none⟩ = some (.bool proposal) := (cell_of_row _ _ _ _ _ _ hk2).trans rfl
  have c8 : w2.cell? ⟨w.heap.size, 8, none⟩ = some (.bool agreement) := (cell_of_row _ _ _ _ _ _ hk2).trans rfl
  have c9 : w2.cell? ⟨w.heap.size, 9, none⟩ = some (.bool learning) := (cell_of_row _ _ _ _ _ _ hk2).trans rfl
  have c10 : w2.cell? ⟨w.heap.size, 10, none⟩ = some (.bool forwarding) := (cell_of_row _ _ _ _ _ _ hk2).trans rfl
  have c11 : w2.cell? ⟨w.heap.size, 11, none⟩ = some (.int .i64 role) := (cell_of_row _ _ _ _ _ _ hk2).trans rfl
  have c12 : w2.cell? ⟨w.heap.size, 12, none⟩ = some (.int .i64 age) := (cell_of_row _ _ _ _ _ _ hk2).trans rfl
  have c13 : w2.cell? ⟨w.heap.size, 13, none⟩ = some (.int .i64 maxAge) := (cell_of_row _ _ _ _ _ _ hk2).trans rfl
  have c14 : w2.cell? ⟨w.heap.size, 14, none⟩ = some (.int .i64 hello) := (cell_of_row _ _ _ _ _ _ hk2).trans rfl
  have c15 : w2.cell? ⟨w.heap.size, 15, none⟩ = some (.int .i64 delay) := (cell_of_row _ _ _ _ _ _ hk2).trans rfl
  clear hb2 hk1 hC hW1
  clear hk2
  have HW3 := hide (hW2.out.later (below1 w2 (.cells #[.int .i64 age, .int .i64 maxAge, .int .i64 hello, .int .i64 delay] 3)))
  have hcell := hide (fun j h => four_cell age maxAge hello delay w2 3 j h)
  have cA : (w2.alloc (.cells #[.int .i64 age, .int .i64 maxAge, .int .i64 hello, .int .i64 delay] 3)).cell? ⟨w.heap.size, 12, none⟩ = some (.int .i64 age) := cell_later' (below1 _ _) c12
  have cM : (w2.alloc (.cells #[.int .i64 age, .int .i64 maxAge, .int .i64 hello, .int .i64 delay] 3)).cell? ⟨w.heap.size, 13, none⟩ = some (.int .i64 maxAge) := cell_later' (below1 _ _) c13
  go_wp2_with fail
  clear c12 c13
  generalize hl : [age, maxAge, hello, delay] = l at *
  clear hl
  generalize hw3 : w2.alloc (.cells #[.int .i64 age, .int .i64 maxAge, .int .i64 hello, .int .i64 delay] 3) = w3 at *
  clear hw3
  go_loop [93, 4] (fun i bd => ∃ j : Nat, j ≤ 4 ∧ i = .int .i64 j ∧ bd = .bool true) (fun i _ => 4 - (intOf i).toNat)
  case atStart => exact ⟨0, Nat.zero_le _, rfl, rfl⟩
  case round =>
    obtain ⟨j, hj, rfl, rfl⟩ := hrel
    by_cases hlt : j < 4
    · have hc := hcell.out j hlt
      generalize l.getD j 0 = x at *
      go_wp2
      go_round
      case rel => exact ⟨j + 1, by omega, by go_num, rfl⟩
      case measure => simp [intOf]; omega
    · obtain rfl : j = 4 := by omega
      go_wp2
      go_ret
      exact ⟨rfl, HW3.out⟩
set_option maxRecDepth 20000 in
set_option maxHeartbeats 1000000 in
theorem BK11 (root cost bridge port role age maxAge hello delay : Int) (change ack proposal agreement learning forwarding : Bool) (w : World) (hT : Tab w) (hW : (Bp.mk 1 root cost bridge port change ack proposal agreement learning forwarding role age maxAge hello delay).wf) (d0 : decide (role < 0) = false) (d1 : decide (3 < role) = true) (hE : bcheckE (Bp.mk 1 root cost bridge port change ack proposal agreement learning forwarding role age maxAge hello delay) = 1) :
    Calls Tryd.prog 13 #[.agg (Bp.mk 1 root cost bridge port change ack proposal agreement learning forwarding role age maxAge hello delay).row] w fun e w' => e = .returned (.bool true) ∧ Below w.heap.size w w' := by
  have hC := hide (fun w => BCheck_any (Bp.mk 1 root cost bridge port change ack proposal agreement learning forwarding role age maxAge hello delay) w hW)
  rw [hE] at hC
  have HW := hide hW
  have hF := hide (fun w hT => tells_any w hT)
  have HT := hide hT
  have hk := heap_alloc_new w (.cells (Bp.row (Bp.mk 1 root cost bridge port change ack proposal agreement learning forwarding role age maxAge hello delay)) 55)
  clear hT hW hE
  go_enter Tryd.func13, Tryd.ntmps13
  go_wp2_with fail
  refine (hF.out _ (HT.out.later (below1 _ _))).mono ?_
  rintro e w1 ⟨rfl, hb1⟩
  have hk1 := heap_kept hb1 hk
  have hW1 := hide ((below1 w _).later hb1)
  clear hb1 hk hF
  go_wp2_with ((with_reducible change wpList _ _ _ _ _ _); refine wpList_load_row rfl 55 (.tmp 1) rfl w.heap.size rfl 55 _ _ _ hk1 Tryd.underlying55 rfl (bpSize _) ?_)
  refine (hC.out _).mono ?_
  rintro e w2 ⟨rfl, hb2⟩
  have hk2 := heap_kept hb2 hk1
  have hW2 := hide (hW1.out.later hb2)
  have c0 : w2.cell? ⟨w.heap.size, 0, none⟩ = some (.int .i64 1) := (cell_of_row _ _ _ _ _ _ hk2).trans rfl
  have c2 : w2.cell? ⟨w.heap.size, 2, none⟩ = some (.int .u64 cost) := (cell_of_row _ _ _ _ _ _ hk2).trans rfl
  have c4 : w2.cell? ⟨w.heap.size, 4, none⟩ = some (.int .i64 port) := (cell_of_row _ _ _ _ _ _ hk2).trans rfl
  have c7 : w2.cell? ⟨w.heap.size, 7, none⟩ = some (.bool proposal) := (cell_of_row _ _ _ _ _ _ hk2).trans rfl
  have c8 : w2.cell? ⟨w.heap.size, 8, none⟩ = some (.bool agreement) := (cell_of_row _ _ _ _ _ _ hk2).trans rfl
  have c9 : w2.cell? ⟨w.heap.size, 9, none⟩ = some (.bool learning) := (cell_of_row _ _ _ _ _ _ hk2).trans rfl
  have c10 : w2.cell? ⟨w.heap.size, 10, none⟩ = some (.bool forwarding) := (cell_of_row _ _ _ _ _ _ hk2).trans rfl
  have c11 : w2.cell? ⟨w.heap.size, 11, none⟩ = some (.int .i64 role) := (cell_of_row _ _ _ _ _ _ hk2).trans rfl
  have c12 : w2.cell? ⟨w.heap.size, 12, none⟩ = some (.int .i64 age) := (cell_of_row _ _ _ _ _ _ hk2).trans rfl
  have c13 : w2.cell? ⟨w.heap.size, 13, none⟩ = some (.int .i64 maxAge) := (cell_of_row _ _ _ _ _ _ hk2).trans rfl
  have c14 : w2.cell? ⟨w.heap.size, 14, none⟩ = some (.int .i64 hello) := (cell_of_row _ _ _ _ _ _ hk2).trans rfl
  have c15 : w2.cell? ⟨w.heap.size, 15, none⟩ = some (.int .i64 delay) := (cell_of_row _ _ _ _ _ _ hk2).trans rfl
  clear hb2 hk1 hC hW1
  clear hk2
  have HW3 := hide (hW2.out.later (below1 w2 (.cells #[.int .i64 age, .int .i64 maxAge, .int .i64 hello, .int .i64 delay] 3)))
  have hcell := hide (fun j h => four_cell age maxAge hello delay w2 3 j h)
  have cA : (w2.alloc (.cells #[.int .i64 age, .int .i64 maxAge, .int .i64 hello, .int .i64 delay] 3)).cell? ⟨w.heap.size, 12, none⟩ = some (.int .i64 age) := cell_later' (below1 _ _) c12
  have cM : (w2.alloc (.cells #[.int .i64 age, .int .i64 maxAge, .int .i64 hello, .int .i64 delay] 3)).cell? ⟨w.heap.size, 13, none⟩ = some (.int .i64 maxAge) := cell_later' (below1 _ _) c13
  go_wp2_with fail
  clear c12 c13
  generalize hl : [age, maxAge, hello, delay] = l at *
  clear hl
  generalize hw3 : w2.alloc (.cells #[.int .i64 age, .int .i64 maxAge, .int .i64 hello, .int .i64 delay] 3) = w3 at *
  clear hw3
  go_loop [93, 4] (fun i bd => ∃ j : Nat, j ≤ 4 ∧ i = .int .i64 j ∧ bd = .bool true) (fun i _ => 4 - (intOf i).toNat)
  case atStart => exact ⟨0, Nat.zero_le _, rfl, rfl⟩
  case round =>
    obtain ⟨j, hj, rfl, rfl⟩ := hrel
    by_cases hlt : j < 4
    · have hc := hcell.out j hlt
      generalize l.getD j 0 = x at *
      go_wp2
      go_round
      case rel => exact ⟨j + 1, by omega, by go_num, rfl⟩
      case measure => simp [intOf]; omega
    · obtain rfl : j = 4 := by omega
      go_wp2
      go_ret
      exact ⟨rfl, HW3.out⟩
set_option maxRecDepth 20000 in
set_option maxHeartbeats 1000000 in
theorem BK12 (root cost bridge port role age maxAge hello delay : Int) (change ack proposal agreement learning forwarding : Bool) (w : World) (hT : Tab w) (hW : (Bp.mk 1 root cost bridge port change ack proposal agreement learning forwarding role age maxAge hello delay).wf) (d0 : decide (role < 0) = false) (d1 : decide (3 < role) = false) (d2 : decide (4294967296 ≤ cost) = true) (hE : bcheckE (Bp.mk 1 root cost bridge port change ack proposal agreement learning forwarding role age maxAge hello delay) = 1) :
    Calls Tryd.prog 13 #[.agg (Bp.mk 1 root cost bridge port change ack proposal agreement learning forwarding role age maxAge hello delay).row] w fun e w' => e = .returned (.bool true) ∧ Below w.heap.size w w' := by
  have hC := hide (fun w => BCheck_any (Bp.mk 1 root cost bridge port change ack proposal agreement learning forwarding role age maxAge hello delay) w hW)
  rw [hE] at hC
  have HW := hide hW
  have hF := hide (fun w hT => tells_any w hT)
  have HT := hide hT
  have hk := heap_alloc_new w (.cells (Bp.row (Bp.mk 1 root cost bridge port change ack proposal agreement learning forwarding role age maxAge hello delay)) 55)
  clear hT hW hE
  go_enter Tryd.func13, Tryd.ntmps13
  go_wp2_with fail
  refine (hF.out _ (HT.out.later (below1 _ _))).mono ?_
  rintro e w1 ⟨rfl, hb1⟩
  have hk1 := heap_kept hb1 hk
  have hW1 := hide ((below1 w _).later hb1)
  clear hb1 hk hF
  go_wp2_with ((with_reducible change wpList _ _ _ _ _ _); refine wpList_load_row rfl 55 (.tmp 1) rfl w.heap.size rfl 55 _ _ _ hk1 Tryd.underlying55 rfl (bpSize _) ?_)
  refine (hC.out _).mono ?_
  rintro e w2 ⟨rfl, hb2⟩
  have hk2 := heap_kept hb2 hk1
  have hW2 := hide (hW1.out.later hb2)
  have c0 : w2.cell? ⟨w.heap.size, 0, none⟩ = some (.int .i64 1) := (cell_of_row _ _ _ _ _ _ hk2).trans rfl
  have c2 : w2.cell? ⟨w.heap.size, 2, none⟩ = some (.int .u64 cost) := (cell_of_row _ _ _ _ _ _ hk2).trans rfl
  have c4 : w2.cell? ⟨w.heap.size, 4, none⟩ = some (.int .i64 port) := (cell_of_row _ _ _ _ _ _ hk2).trans rfl
  have c7 : w2.cell? ⟨w.heap.size, 7, none⟩ = some (.bool proposal) := (cell_of_row _ _ _ _ _ _ hk2).trans rfl
  have c8 : w2.cell? ⟨w.heap.size, 8, none⟩ = some (.bool agreement) := (cell_of_row _ _ _ _ _ _ hk2).trans rfl
  have c9 : w2.cell? ⟨w.heap.size, 9, none⟩ = some (.bool learning) := (cell_of_row _ _ _ _ _ _ hk2).trans rfl
  have c10 : w2.cell? ⟨w.heap.size, 10, none⟩ = some (.bool forwarding) := (cell_of_row _ _ _ _ _ _ hk2).trans rfl
  have c11 : w2.cell? ⟨w.heap.size, 11, none⟩ = some (.int .i64 role) := (cell_of_row _ _ _ _ _ _ hk2).trans rfl
  have c12 : w2.cell? ⟨w.heap.size, 12, none⟩ = some (.int .i64 age) := (cell_of_row _ _ _ _ _ _ hk2).trans rfl
  have c13 : w2.cell? ⟨w.heap.size, 13, none⟩ = some (.int .i64 maxAge) := (cell_of_row _ _ _ _ _ _ hk2).trans rfl
  have c14 : w2.cell? ⟨w.heap.size, 14, none⟩ = some (.int .i64 hello) := (cell_of_row _ _ _ _ _ _ hk2).trans rfl
  have c15 : w2.cell? ⟨w.heap.size, 15, none⟩ = some (.int .i64 delay) := (cell_of_row _ _ _ _ _ _ hk2).trans rfl
  clear hb2 hk1 hC hW1
  clear hk2
  have HW3 := hide (hW2.out.later (below1 w2 (.cells #[.int .i64 age, .int .i64 maxAge, .int .i64 hello, .int .i64 delay] 3)))
  have hcell := hide (fun j h => four_cell age maxAge hello delay w2 3 j h)
  have cA : (w2.alloc (.cells #[.int .i64 age, .int .i64 maxAge, .int .i64 hello, .int .i64 delay] 3)).cell? ⟨w.heap.size, 12, none⟩ = some (.int .i64 age) := cell_later' (below1 _ _) c12
  have cM : (w2.alloc (.cells #[.int .i64 age, .int .i64 maxAge, .int .i64 hello, .int .i64 delay] 3)).cell? ⟨w.heap.size, 13, none⟩ = some (.int .i64 maxAge) := cell_later' (below1 _ _) c13
  go_wp2_with fail
  clear c12 c13
  generalize hl : [age, maxAge, hello, delay] = l at *
  clear hl
  generalize hw3 : w2.alloc (.cells #[.int .i64 age, .int .i64 maxAge, .int .i64 hello, .int .i64 delay] 3) = w3 at *
  clear hw3
  go_loop [93, 4] (fun i bd => ∃ j : Nat, j ≤ 4 ∧ i = .int .i64 j ∧ bd = .bool true) (fun i _ => 4 - (intOf i).toNat)
  case atStart => exact ⟨0, Nat.zero_le _, rfl, rfl⟩
  case round =>
    obtain ⟨j, hj, rfl, rfl⟩ := hrel
    by_cases hlt : j < 4
    · have hc := hcell.out j hlt
      generalize l.getD j 0 = x at *
      go_wp2
      go_round
      case rel => exact ⟨j + 1, by omega, by go_num, rfl⟩
      case measure => simp [intOf]; omega
    · obtain rfl : j = 4 := by omega
      go_wp2
      go_ret
      exact ⟨rfl, HW3.out⟩
set_option maxRecDepth 20000 in
set_option maxHeartbeats 1000000 in
theorem BK13 (root cost bridge port role age maxAge hello delay : Int) (change ack proposal agreement learning forwarding : Bool) (w : World) (hT : Tab w) (hW : (Bp.mk 1 root cost bridge port change ack proposal agreement learning forwarding role age maxAge hello delay).wf) (d0 : decide (role < 0) = false) (d1 : decide (3 < role) = false) (d2 : decide (4294967296 ≤ cost) = false) (d3 : decide (port < 0) = true) (hE : bcheckE (Bp.mk 1 root cost bridge port change ack proposal agreement learning forwarding role age maxAge hello delay) = 1) :
    Calls Tryd.prog 13 #[.agg (Bp.mk 1 root cost bridge port change ack proposal agreement learning forwarding role age maxAge hello delay).row] w fun e w' => e = .returned (.bool true) ∧ Below w.heap.size w w' := by
  have hC := hide (fun w => BCheck_any (Bp.mk 1 root cost bridge port change ack proposal agreement learning forwarding role age maxAge hello delay) w hW)
  rw [hE] at hC
  have HW := hide hW
  have hF := hide (fun w hT => tells_any w hT)
  have HT := hide hT
  have hk := heap_alloc_new w (.cells (Bp.row (Bp.mk 1 root cost bridge port change ack proposal agreement learning forwarding role age maxAge hello delay)) 55)
  clear hT hW hE
  go_enter Tryd.func13, Tryd.ntmps13
  go_wp2_with fail
  refine (hF.out _ (HT.out.later (below1 _ _))).mono ?_
  rintro e w1 ⟨rfl, hb1⟩
  have hk1 := heap_kept hb1 hk
  have hW1 := hide ((below1 w _).later hb1)
  clear hb1 hk hF
  go_wp2_with ((with_reducible change wpList _ _ _ _ _ _); refine wpList_load_row rfl 55 (.tmp 1) rfl w.heap.size rfl 55 _ _ _ hk1 Tryd.underlying55 rfl (bpSize _) ?_)
  refine (hC.out _).mono ?_
  rintro e w2 ⟨rfl, hb2⟩
  have hk2 := heap_kept hb2 hk1
  have hW2 := hide (hW1.out.later hb2)
  have c0 : w2.cell? ⟨w.heap.size, 0, none⟩ = some (.int .i64 1) := (cell_of_row _ _ _ _ _ _ hk2).trans rfl
  have c2 : w2.cell? ⟨w.heap.size, 2, none⟩ = some (.int .u64 cost) := (cell_of_row _ _ _ _ _ _ hk2).trans rfl
  have c4 : w2.cell? ⟨w.heap.size, 4, none⟩ = some (.int .i64 port) := (cell_of_row _ _ _ _ _ _ hk2).trans rfl
  have c7 : w2.cell? ⟨w.heap.size, 7, none⟩ = some (.bool proposal) := (cell_of_row _ _ _ _ _ _ hk2).trans rfl
  have c8 : w2.cell? ⟨w.heap.size, 8, none⟩ = some (.bool agreement) := (cell_of_row _ _ _ _ _ _ hk2).trans rfl
  have c9 : w2.cell? ⟨w.heap.size, 9, none⟩ = some (.bool learning) := (cell_of_row _ _ _ _ _ _ hk2).trans rfl
  have c10 : w2.cell? ⟨w.heap.size, 10, none⟩ = some (.bool forwarding) := (cell_of_row _ _ _ _ _ _ hk2).trans rfl
  have c11 : w2.cell? ⟨w.heap.size, 11, none⟩ = some (.int .i64 role) := (cell_of_row _ _ _ _ _ _ hk2).trans rfl
  have c12 : w2.cell? ⟨w.heap.size, 12, none⟩ = some (.int .i64 age) := (cell_of_row _ _ _ _ _ _ hk2).trans rfl
  have c13 : w2.cell? ⟨w.heap.size, 13, none⟩ = some (.int .i64 maxAge) := (cell_of_row _ _ _ _ _ _ hk2).trans rfl
  have c14 : w2.cell? ⟨w.heap.size, 14, none⟩ = some (.int .i64 hello) := (cell_of_row _ _ _ _ _ _ hk2).trans rfl
  have c15 : w2.cell? ⟨w.heap.size, 15, none⟩ = some (.int .i64 delay) := (cell_of_row _ _ _ _ _ _ hk2).trans rfl
  clear hb2 hk1 hC hW1
  clear hk2
  have HW3 := hide (hW2.out.later (below1 w2 (.cells #[.int .i64 age, .int .i64 maxAge, .int .i64 hello, .int .i64 delay] 3)))
  have hcell := hide (fun j h => four_cell age maxAge hello delay w2 3 j h)
  have cA : (w2.alloc (.cells #[.int .i64 age, .int .i64 maxAge, .int .i64 hello, .int .i64 delay] 3)).cell? ⟨w.heap.size, 12, none⟩ = some (.int .i64 age) := cell_later' (below1 _ _) c12
  have cM : (w2.alloc (.cells #[.int .i64 age, .int .i64 maxAge, .int .i64 hello, .int .i64 delay] 3)).cell? ⟨w.heap.size, 13, none⟩ = some (.int .i64 maxAge) := cell_later' (below1 _ _) c13
  go_wp2_with fail
  clear c12 c13
  generalize hl : [age, maxAge, hello, delay] = l at *
  clear hl
  generalize hw3 : w2.alloc (.cells #[.int .i64 age, .int .i64 maxAge, .int .i64 hello, .int .i64 delay] 3) = w3 at *
  clear hw3
  go_loop [93, 4] (fun i bd => ∃ j : Nat, j ≤ 4 ∧ i = .int .i64 j ∧ bd = .bool true) (fun i _ => 4 - (intOf i).toNat)
  case atStart => exact ⟨0, Nat.zero_le _, rfl, rfl⟩
  case round =>
    obtain ⟨j, hj, rfl, rfl⟩ := hrel
    by_cases hlt : j < 4
    · have hc := hcell.out j hlt
      generalize l.getD j 0 = x at *
      go_wp2
      go_round
      case rel => exact ⟨j + 1, by omega, by go_num, rfl⟩
      case measure => simp [intOf]; omega
    · obtain rfl : j = 4 := by omega
      go_wp2
      go_ret
      exact ⟨rfl, HW3.out⟩
set_option maxRecDepth 20000 in
set_option maxHeartbeats 1000000 in
theorem BK14 (root cost bridge port role age maxAge hello delay : Int) (change ack proposal agreement learning forwarding : Bool) (w : World) (hT : Tab w) (hW : (Bp.mk 1 root cost bridge port change ack proposal agreement learning forwarding role age maxAge hello delay).wf) (d0 : decide (role < 0) = false) (d1 : decide (3 < role) = false) (d2 : decide (4294967296 ≤ cost) = false) (d3 : decide (port < 0) = false) (d4 : decide (65536 ≤ port) = true) (hE : bcheckE (Bp.mk 1 root cost bridge port change ack proposal agreement learning forwarding role age maxAge hello delay) = 1) :
    Calls Tryd.prog 13 #[.agg (Bp.mk 1 root cost bridge port change ack proposal agreement learning forwarding role age maxAge hello delay).row] w fun e w' => e = .returned (.bool true) ∧ Below w.heap.size w w' := by
  have hC := hide (fun w => BCheck_any (Bp.mk 1 root cost bridge port change ack proposal agreement learning forwarding role age maxAge hello delay) w hW)
  rw [hE] at hC
  have HW := hide hW
  have hF := hide (fun w hT => tells_any w hT)
  have HT := hide hT
  have hk := heap_alloc_new w (.cells (Bp.row (Bp.mk 1 root cost bridge port change ack proposal agreement learning forwarding role age maxAge hello delay)) 55)
  clear hT hW hE
  go_enter Tryd.func13, Tryd.ntmps13
  go_wp2_with fail
  refine (hF.out _ (HT.out.later (below1 _ _))).mono ?_
  rintro e w1 ⟨rfl, hb1⟩
  have hk1 := heap_kept hb1 hk
  have hW1 := hide ((below1 w _).later hb1)
  clear hb1 hk hF
  go_wp2_with ((with_reducible change wpList _ _ _ _ _ _); refine wpList_load_row rfl 55 (.tmp 1) rfl w.heap.size rfl 55 _ _ _ hk1 Tryd.underlying55 rfl (bpSize _) ?_)
  refine (hC.out _).mono ?_
  rintro e w2 ⟨rfl, hb2⟩
  have hk2 := heap_kept hb2 hk1
  have hW2 := hide (hW1.out.later hb2)
  have c0 : w2.cell? ⟨w.heap.size, 0, none⟩ = some (.int .i64 1) := (cell_of_row _ _ _ _ _ _ hk2).trans rfl
  have c2 : w2.cell? ⟨w.heap.size, 2, none⟩ = some (.int .u64 cost) := (cell_of_row _ _ _ _ _ _ hk2).trans rfl
  have c4 : w2.cell? ⟨w.heap.size, 4, none⟩ = some (.int .i64 port) := (cell_of_row _ _ _ _ _ _ hk2).trans rfl
  have c7 : w2.cell? ⟨w.heap.size, 7, none⟩ = some (.bool proposal) := (cell_of_row _ _ _ _ _ _ hk2).trans rfl
  have c8 : w2.cell? ⟨w.heap.size, 8, none⟩ = some (.bool agreement) := (cell_of_row _ _ _ _ _ _ hk2).trans rfl
  have c9 : w2.cell? ⟨w.heap.size, 9, none⟩ = some (.bool learning) := (cell_of_row _ _ _ _ _ _ hk2).trans rfl
  have c10 : w2.cell? ⟨w.heap.size, 10, none⟩ = some (.bool forwarding) := (cell_of_row _ _ _ _ _ _ hk2).trans rfl
  have c11 : w2.cell? ⟨w.heap.size, 11, none⟩ = some (.int .i64 role) := (cell_of_row _ _ _ _ _ _ hk2).trans rfl
  have c12 : w2.cell? ⟨w.heap.size, 12, none⟩ = some (.int .i64 age) := (cell_of_row _ _ _ _ _ _ hk2).trans rfl
  have c13 : w2.cell? ⟨w.heap.size, 13, none⟩ = some (.int .i64 maxAge) := (cell_of_row _ _ _ _ _ _ hk2).trans rfl
  have c14 : w2.cell? ⟨w.heap.size, 14, none⟩ = some (.int .i64 hello) := (cell_of_row _ _ _ _ _ _ hk2).trans rfl
  have c15 : w2.cell? ⟨w.heap.size, 15, none⟩ = some (.int .i64 delay) := (cell_of_row _ _ _ _ _ _ hk2).trans rfl
  clear hb2 hk1 hC hW1
  clear hk2
  have HW3 := hide (hW2.out.later (below1 w2 (.cells #[.int .i64 age, .int .i64 maxAge, .int .i64 hello, .int .i64 delay] 3)))
  have hcell := hide (fun j h => four_cell age maxAge hello delay w2 3 j h)
  have cA : (w2.alloc (.cells #[.int .i64 age, .int .i64 maxAge, .int .i64 hello, .int .i64 delay] 3)).cell? ⟨w.heap.size, 12, none⟩ = some (.int .i64 age) := cell_later' (below1 _ _) c12
  have cM : (w2.alloc (.cells #[.int .i64 age, .int .i64 maxAge, .int .i64 hello, .int .i64 delay] 3)).cell? ⟨w.heap.size, 13, none⟩ = some (.int .i64 maxAge) := cell_later' (below1 _ _) c13
  go_wp2_with fail
  clear c12 c13
  generalize hl : [age, maxAge, hello, delay] = l at *
  clear hl
  generalize hw3 : w2.alloc (.cells #[.int .i64 age, .int .i64 maxAge, .int .i64 hello, .int .i64 delay] 3) = w3 at *
  clear hw3
  go_loop [93, 4] (fun i bd => ∃ j : Nat, j ≤ 4 ∧ i = .int .i64 j ∧ bd = .bool true) (fun i _ => 4 - (intOf i).toNat)
  case atStart => exact ⟨0, Nat.zero_le _, rfl, rfl⟩
  case round =>
    obtain ⟨j, hj, rfl, rfl⟩ := hrel
    by_cases hlt : j < 4
    · have hc := hcell.out j hlt
      generalize l.getD j 0 = x at *
      go_wp2
      go_round
      case rel => exact ⟨j + 1, by omega, by go_num, rfl⟩
      case measure => simp [intOf]; omega
    · obtain rfl : j = 4 := by omega
      go_wp2
      go_ret
      exact ⟨rfl, HW3.out⟩
set_option maxRecDepth 20000 in
set_option maxHeartbeats 1000000 in
theorem BK15 (root cost bridge port role age maxAge hello delay : Int) (change ack proposal agreement learning forwarding : Bool) (E : Int) (w : World) (hT : Tab w) (hW : (Bp.mk 1 root cost bridge port change ack proposal agreement learning forwarding role age maxAge hello delay).wf) (d0 : decide (role < 0) = false) (d1 : decide (3 < role) = false) (d2 : decide (4294967296 ≤ cost) = false) (d3 : decide (port < 0) = false) (d4 : decide (65536 ≤ port) = false) (hEX : E = if nbB [age, maxAge, hello, delay] 4 = true then 1 else if maxAge ≤ age then 4 else 0) (hE : bcheckE (Bp.mk 1 root cost bridge port change ack proposal agreement learning forwarding role age maxAge hello delay) = E) :
    Calls Tryd.prog 13 #[.agg (Bp.mk 1 root cost bridge port change ack proposal agreement learning forwarding role age maxAge hello delay).row] w fun e w' => e = .returned (.bool true) ∧ Below w.heap.size w w' := by
  have HEX := hide hEX
  clear hEX
  have hC := hide (fun w => BCheck_any (Bp.mk 1 root cost bridge port change ack proposal agreement learning forwarding role age maxAge hello delay) w hW)
  rw [hE] at hC
  have HW := hide hW
  have hF := hide (fun w hT => tells_any w hT)
  have HT := hide hT
  have hk := heap_alloc_new w (.cells (Bp.row (Bp.mk 1 root cost bridge port change ack proposal agreement learning forwarding role age maxAge hello delay)) 55)
  clear hT hW hE
  go_enter Tryd.func13, Tryd.ntmps13
  go_wp2_with fail
  refine (hF.out _ (HT.out.later (below1 _ _))).mono ?_
  rintro e w1 ⟨rfl, hb1⟩
  have hk1 := heap_kept hb1 hk
  have hW1 := hide ((below1 w _).later hb1)
  clear hb1 hk hF
  go_wp2_with ((with_reducible change wpList _ _ _ _ _ _); refine wpList_load_row rfl 55 (.tmp 1) rfl w.heap.size rfl 55 _ _ _ hk1 Tryd.underlying55 rfl (bpSize _) ?_)
  refine (hC.out _).mono ?_
  rintro e w2 ⟨rfl, hb2⟩
  have hk2 := heap_kept hb2 hk1
  have hW2 := hide (hW1.out.later hb2)
  have c0 : w2.cell? ⟨w.heap.size, 0, none⟩ = some (.int .i64 1) := (cell_of_row _ _ _ _ _ _ hk2).trans rfl
  have c2 : w2.cell? ⟨w.heap.size, 2, none⟩ = some (.int .u64 cost) := (cell_of_row _ _ _ _ _ _ hk2).trans rfl
  have c4 : w2.cell? ⟨w.heap.size, 4, none⟩ = some (.int .i64 port) := (cell_of_row _ _ _ _ _ _ hk2).trans rfl
  have c7 : w2.cell? ⟨w.heap.size, 7, none⟩ = some (.bool proposal) := (cell_of_row _ _ _ _ _ _ hk2).trans rfl
  have c8 : w2.cell? ⟨w.heap.size, 8, none⟩ = some (.bool agreement) := (cell_of_row _ _ _ _ _ _ hk2).trans rfl
  have c9 : w2.cell? ⟨w.heap.size, 9, none⟩ = some (.bool learning) := (cell_of_row _ _ _ _ _ _ hk2).trans rfl
  have c10 : w2.cell? ⟨w.heap.size, 10, none⟩ = some (.bool forwarding) := (cell_of_row _ _ _ _ _ _ hk2).trans rfl
  have c11 : w2.cell? ⟨w.heap.size, 11, none⟩ = some (.int .i64 role) := (cell_of_row _ _ _ _ _ _ hk2).trans rfl
  have c12 : w2.cell? ⟨w.heap.size, 12, none⟩ = some (.int .i64 age) := (cell_of_row _ _ _ _ _ _ hk2).trans rfl
  have c13 : w2.cell? ⟨w.heap.size, 13, none⟩ = some (.int .i64 maxAge) := (cell_of_row _ _ _ _ _ _ hk2).trans rfl
  have c14 : w2.cell? ⟨w.heap.size, 14, none⟩ = some (.int .i64 hello) := (cell_of_row _ _ _ _ _ _ hk2).trans rfl
  have c15 : w2.cell? ⟨w.heap.size, 15, none⟩ = some (.int .i64 delay) := (cell_of_row _ _ _ _ _ _ hk2).trans rfl
  clear hb2 hk1 hC hW1
  clear hk2
  have HW3 := hide (hW2.out.later (below1 w2 (.cells #[.int .i64 age, .int .i64 maxAge, .int .i64 hello, .int .i64 delay] 3)))
  have hcell := hide (fun j h => four_cell age maxAge hello delay w2 3 j h)
  have cA : (w2.alloc (.cells #[.int .i64 age, .int .i64 maxAge, .int .i64 hello, .int .i64 delay] 3)).cell? ⟨w.heap.size, 12, none⟩ = some (.int .i64 age) := cell_later' (below1 _ _) c12
  have cM : (w2.alloc (.cells #[.int .i64 age, .int .i64 maxAge, .int .i64 hello, .int .i64 delay] 3)).cell? ⟨w.heap.size, 13, none⟩ = some (.int .i64 maxAge) := cell_later' (below1 _ _) c13
  go_wp2_with fail
  clear c12 c13
  generalize hl : [age, maxAge, hello, delay] = l at *
  have hlen : Hid (l.length = 4) := by show l.length = 4; rw [← hl]; rfl
  clear hl
  generalize hw3 : w2.alloc (.cells #[.int .i64 age, .int .i64 maxAge, .int .i64 hello, .int .i64 delay] 3) = w3 at *
  clear hw3
  go_loop [93, 4] (fun i bd => ∃ j : Nat, j ≤ 4 ∧ i = .int .i64 j ∧ bd = .bool (nbB l j)) (fun i _ => 4 - (intOf i).toNat)
  case atStart => exact ⟨0, Nat.zero_le _, rfl, rfl⟩
  case round =>
    obtain ⟨j, hj, rfl, rfl⟩ := hrel
    by_cases hlt : j < 4
    · have hc := hcell.out j hlt
      have hsu := hide (nbB_succ l j (by rw [hlen.out]; exact hlt))
      have hpb : Hid (pairB (l.getD j 0) = decide (0 ≤ l.getD j 0 ∧ l.getD j 0 ≤ 65535)) := rfl
      generalize pairB (l.getD j 0) = pb at *
      generalize l.getD j 0 = x at *
      cases hq : nbB l j
      · rcases (show x < 0 ∨ (0 ≤ x ∧ 65536 ≤ x) ∨ (0 ≤ x ∧ x ≤ 65535) from by omega) with h0 | ⟨h0, h1⟩ | ⟨h0, h1⟩
        · have hd0 : decide (x < 0) = true := by simpa using h0
          have hs : Hid (nbB l (j + 1) = true) := by show _ = _; rw [hsu.out, hpb.out, decide_eq_false (by omega)]; simp
          clear h0 hpb hsu
          go_wp2
          go_round
          case rel => exact ⟨j + 1, by omega, by go_num, by rw [hs.out]⟩
          case measure => simp [intOf]; omega
        · have hd0 : decide (x < 0) = false := by simp; omega
          have hd1 : decide (65536 ≤ x) = true := by simpa using h1
          have hs : Hid (nbB l (j + 1) = true) := by show _ = _; rw [hsu.out, hpb.out, decide_eq_false (by omega)]; simp
          clear h0 h1 hpb hsu
          go_wp2
          go_round
          case rel => exact ⟨j + 1, by omega, by go_num, by rw [hs.out]⟩
          case measure => simp [intOf]; omega
        · have hd0 : decide (x < 0) = false := by simp; omega
          have hd1 : decide (65536 ≤ x) = false := by simp; omega
          have hs : Hid (nbB l (j + 1) = false) := by show _ = _; rw [hsu.out, hpb.out, decide_eq_true (by omega), hq]; simp
          clear h0 h1 hpb hsu
          go_wp2
          go_round
          case rel => exact ⟨j + 1, by omega, by go_num, by rw [hs.out]⟩
          case measure => simp [intOf]; omega
      · have hs : Hid (nbB l (j + 1) = true) := by show _ = _; rw [hsu.out, hq]; simp
        clear hpb hsu
        go_wp2
        go_round
        case rel => exact ⟨j + 1, by omega, by go_num, by rw [hs.out]⟩
        case measure => simp [intOf]; omega
    · obtain rfl : j = 4 := by omega
      cases hq : nbB l 4
      · by_cases hag : maxAge ≤ age
        · have hdg : decide (maxAge ≤ age) = true := by simpa using hag
          obtain rfl : E = 4 := by rw [HEX.out, hq, if_neg (by simp), if_pos hag]
          clear HEX
          go_wp2
          go_ret
          exact ⟨rfl, HW3.out⟩
        · have hdg : decide (maxAge ≤ age) = false := by simpa using hag
          obtain rfl : E = 0 := by rw [HEX.out, hq, if_neg (by simp), if_neg hag]
          clear HEX
          go_wp2
          go_ret
          exact ⟨rfl, HW3.out⟩
      · obtain rfl : E = 1 := by rw [HEX.out, hq, if_pos rfl]
        clear HEX
        go_wp2
        go_ret
        exact ⟨rfl, HW3.out⟩
end Go.Proofs.YtiimppbfigikfaaDoor
