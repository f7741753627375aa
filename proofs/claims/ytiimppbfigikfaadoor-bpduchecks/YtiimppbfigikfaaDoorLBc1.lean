/-
  The statement BpduChecks, walked. Condition: the table lies as the program's text lays it ('Tab').
-/
import Derived.Test.YtiimppbfigikfaaDoorBq7
namespace Go.Proofs.YtiimppbfigikfaaDoor
open Go.RowKit
set_option linter.unusedVariables false

/-- Is one of the first numbers none of two bytes? -/
def nbB (l : List Int) (j : Nat) : Bool := (l.take j).any fun x => !pairB x
theorem nbB_succ (l : List Int) (j : Nat) (h : j < l.length) : nbB l (j + 1) = (nbB l j || !pairB (l.getD j 0)) := by
  unfold nbB
  rw [List.take_succ_eq_append_getElem h, List.any_append]
  simp [List.getD_eq_getElem?_getD, h]
theorem four_cell (a b c d : Int) (w : World) (t : TypeId) (j : Nat) (h : j < 4) : (w.alloc (.cells #[.int .i64 a, .int .i64 b, .int .i64 c, .int .i64 d] t)).cell? ⟨w.heap.size, j, none⟩ = some (.int .i64 ([a, b, c, d].getD j 0)) := by
  rw [cell_of_row _ _ _ _ _ _ (heap_alloc_new w _)]
  rcases (show j = 0 ∨ j = 1 ∨ j = 2 ∨ j = 3 by omega) with rfl | rfl | rfl | rfl <;> rfl
theorem bcheck_bad {b : Bp} (hk : b.kind = 0 ∨ b.kind = 1) (h : numsB b = false ∨ (b.kind = 0 ∧ tellsB b = true)) : bcheckE b = 1 := by
  unfold bcheckE
  rw [if_neg (by omega), if_neg (by omega), if_pos h]
theorem bcheck_nb {b : Bp} (hk : b.kind = 0 ∨ b.kind = 1) (h : ¬ (b.kind = 0 ∧ tellsB b = true)) (r0 : 0 ≤ b.role) (r1 : b.role ≤ 3) (c0 : b.cost ≤ 4294967295) (p0 : 0 ≤ b.port) (p1 : b.port ≤ 65535) : bcheckE b = if nbB [b.age, b.maxAge, b.hello, b.delay] 4 = true then 1 else if b.maxAge ≤ b.age then 4 else 0 := by
  unfold bcheckE
  rw [if_neg (by omega), if_neg (by omega)]
  have e : numsB b = !nbB [b.age, b.maxAge, b.hello, b.delay] 4 := by
    have ep : pairB b.port = true := by simp [pairB]; omega
    simp only [numsB, Bp.five, nbB, List.take, List.all_cons, List.all_nil, List.any_cons, List.any_nil, ep, decide_eq_true (show 0 ≤ b.role ∧ b.role ≤ 3 ∧ b.cost ≤ 4294967295 by omega)]
    cases pairB b.age <;> cases pairB b.maxAge <;> cases pairB b.hello <;> cases pairB b.delay <;> rfl
  cases hq : nbB [b.age, b.maxAge, b.hello, b.delay] 4
  · rw [hq] at e
    rw [if_neg (by rw [e]; simp; simpa using h)]
    simp
  · rw [hq] at e
    rw [if_pos (.inl (by rw [e]; rfl))]
    simp
set_option maxRecDepth 20000 in
set_option maxHeartbeats 1000000 in
theorem BC1 (kind root cost bridge port role age maxAge hello delay : Int) (change ack proposal agreement learning forwarding : Bool) (w : World) (hT : Tab w) (hW : (Bp.mk kind root cost bridge port change ack proposal agreement learning forwarding role age maxAge hello delay).wf) (d0 : decide (kind < 0) = true) (hE : bcheckE (Bp.mk kind root cost bridge port change ack proposal agreement learning forwarding role age maxAge hello delay) = 11) :
    Calls Tryd.prog 13 #[.agg (Bp.mk kind root cost bridge port change ack proposal agreement learning forwarding role age maxAge hello delay).row] w fun e w' => e = .returned (.bool true) ∧ Below w.heap.size w w' := by
  have hC := hide (fun w => BCheck_any (Bp.mk kind root cost bridge port change ack proposal agreement learning forwarding role age maxAge hello delay) w hW)
  rw [hE] at hC
  have HW := hide hW
  have hF := hide (fun w hT => tells_any w hT)
  have HT := hide hT
  have hk := heap_alloc_new w (.cells (Bp.row (Bp.mk kind root cost bridge port change ack proposal agreement learning forwarding role age maxAge hello delay)) 55)
  clear hT hW hE
  go_enter Tryd.func13, Tryd.ntmps13
  go_wp2_with fail
  refine (hF.out _ (HT.out.later (below1 _ _))).mono ?_
  rintro e w1 ⟨rfl, hb1⟩
  have hk1 := heap_kept hb1 hk
  have hW1 := hide ((below1 w _).later hb1)
  clear hb1 hk hF
  go_wp2_with ((with_reducible change wpList _ _ _ _ _ _); refine wpList_load_row rfl 55 (.tmp 1) rfl w.heap.size rfl 55 _ _ _ hk1 Tryd.underlying55 rfl (bpSize _) ?_)
  refine (hC.out _).mono ?_
  rintro e w2 ⟨rfl, hb2⟩
  have hk2 := heap_kept hb2 hk1
  have hW2 := hide (hW1.out.later hb2)
  have c0 : w2.cell? ⟨w.heap.size, 0, none⟩ = some (.int .i64 kind) := (cell_of_row _ _ _ _ _ _ hk2).trans rfl
  have c2 : w2.cell? ⟨w.heap.size, 2, none⟩ = some (.int .u64 cost) := (cell_of_row _ _ _ _ _ _ hk2).trans rfl
  have c4 : w2.cell? ⟨w.heap.size, 4, none⟩ = some (.int .i64 port) := (cell_of_row _ _ _ _ _ _ hk2).trans rfl
  have c7 : w2.cell? ⟨w.heap.size, 7, none⟩ = some (.bool proposal) := (cell_of_row _ _ _ _ _ _ hk2).trans rfl
  have c8 : w2.cell? ⟨w.heap.size, 8, none⟩ = some (.bool agreement) := (cell_of_row _ _ _ _ _ _ hk2).trans rfl
  have c9 : w2.cell? ⟨w.heap.size, 9, none⟩ = some (.bool learning) := (cell_of_row _ _ _ _ _ _ hk2).trans rfl
  have c10 : w2.cell? ⟨w.heap.size, 10, none⟩ = some (.bool forwarding) := (cell_of_row _ _ _ _ _ _ hk2).trans rfl
  have c11 : w2.cell? ⟨w.heap.size, 11, none⟩ = some (.int .i64 role) := (cell_of_row _ _ _ _ _ _ hk2).trans rfl
  have c12 : w2.cell? ⟨w.heap.size, 12, none⟩ = some (.int .i64 age) := (cell_of_row _ _ _ _ _ _ hk2).trans rfl
  have c13 : w2.cell? ⟨w.heap.size, 13, none⟩ = some (.int .i64 maxAge) := (cell_of_row _ _ _ _ _ _ hk2).trans rfl
  have c14 : w2.cell? ⟨w.heap.size, 14, none⟩ = some (.int .i64 hello) := (cell_of_row _ _ _ _ _ _ hk2).trans rfl
  have c15 : w2.cell? ⟨w.heap.size, 15, none⟩ = some (.int .i64 delay) := (cell_of_row _ _ _ _ _ _ hk2).trans rfl
  clear hb2 hk1 hC hW1
  clear hk2
  go_wp2
  go_ret
  exact ⟨rfl, hW2.out⟩
set_option maxRecDepth 20000 in
set_option maxHeartbeats 1000000 in
theorem BC2 (kind root cost bridge port role age maxAge hello delay : Int) (change ack proposal agreement learning forwarding : Bool) (w : World) (hT : Tab w) (hW : (Bp.mk kind root cost bridge port change ack proposal agreement learning forwarding role age maxAge hello delay).wf) (d0 : decide (kind < 0) = false) (d1 : decide (2 < kind) = true) (hE : bcheckE (Bp.mk kind root cost bridge port change ack proposal agreement learning forwarding role age maxAge hello delay) = 11) :
    Calls Tryd.prog 13 #[.agg (Bp.mk kind root cost bridge port change ack proposal agreement learning forwarding role age maxAge hello delay).row] w fun e w' => e = .returned (.bool true) ∧ Below w.heap.size w w' := by
  have hC := hide (fun w => BCheck_any (Bp.mk kind root cost bridge port change ack proposal agreement learning forwarding role age maxAge hello delay) w hW)
  rw [hE] at hC
  have HW := hide hW
  have hF := hide (fun w hT => tells_any w hT)
  have HT := hide hT
  have hk := heap_alloc_new w (.cells (Bp.row (Bp.mk kind root cost bridge port change ack proposal agreement learning forwarding role age maxAge hello delay)) 55)
  clear hT hW hE
  go_enter Tryd.func13, Tryd.ntmps13
  go_wp2_with fail
  refine (hF.out _ (HT.out.later (below1 _ _))).mono ?_
  rintro e w1 ⟨rfl, hb1⟩
  have hk1 := heap_kept hb1 hk
  have hW1 := hide ((below1 w _).later hb1)
  clear hb1 hk hF
  go_wp2_with ((with_reducible change wpList _ _ _ _ _ _); refine wpList_load_row rfl 55 (.tmp 1) rfl w.heap.size rfl 55 _ _ _ hk1 Tryd.underlying55 rfl (bpSize _) ?_)
  refine (hC.out _).mono ?_
  rintro e w2 ⟨rfl, hb2⟩
  have hk2 := heap_kept hb2 hk1
  have hW2 := hide (hW1.out.later hb2)
  have c0 : w2.cell? ⟨w.heap.size, 0, none⟩ = some (.int .i64 kind) := (cell_of_row _ _ _ _ _ _ hk2).trans rfl
  have c2 : w2.cell? ⟨w.heap.size, 2, none⟩ = some (.int .u64 cost) := (cell_of_row _ _ _ _ _ _ hk2).trans rfl
  have c4 : w2.cell? ⟨w.heap.size, 4, none⟩ = some (.int .i64 port) := (cell_of_row _ _ _ _ _ _ hk2).trans rfl
  have c7 : w2.cell? ⟨w.heap.size, 7, none⟩ = some (.bool proposal) := (cell_of_row _ _ _ _ _ _ hk2).trans rfl
  have c8 : w2.cell? ⟨w.heap.size, 8, none⟩ = some (.bool agreement) := (cell_of_row _ _ _ _ _ _ hk2).trans rfl
  have c9 : w2.cell? ⟨w.heap.size, 9, none⟩ = some (.bool learning) := (cell_of_row _ _ _ _ _ _ hk2).trans rfl
  have c10 : w2.cell? ⟨w.heap.size, 10, none⟩ = some (.bool forwarding) := (cell_of_row _ _ _ _ _ _ hk2).trans rfl
  have c11 : w2.cell? ⟨w.heap.size, 11, none⟩ = some (.int .i64 role) := (cell_of_row _ _ _ _ _ _ hk2).trans rfl
  have c12 : w2.cell? ⟨w.heap.size, 12, none⟩ = some (.int .i64 age) := (cell_of_row _ _ _ _ _ _ hk2).trans rfl
  have c13 : w2.cell? ⟨w.heap.size, 13, none⟩ = some (.int .i64 maxAge) := (cell_of_row _ _ _ _ _ _ hk2).trans rfl
  have c14 : w2.cell? ⟨w.heap.size, 14, none⟩ = some (.int .i64 hello) := (cell_of_row _ _ _ _ _ _ hk2).trans rfl
  have c15 : w2.cell? ⟨w.heap.size, 15, none⟩ = some (.int .i64 delay) := (cell_of_row _ _ _ _ _ _ hk2).trans rfl
  clear hb2 hk1 hC hW1
  clear hk2
  go_wp2
  go_ret
  exact ⟨rfl, hW2.out⟩
set_option maxRecDepth 20000 in
set_option maxHeartbeats 1000000 in
theorem BC3 (w : World) (hT : Tab w) (hW : (Bp.mk 2 0 0 0 0 false false false false false false 0 0 0 0 0).wf) (hE : bcheckE (Bp.mk 2 0 0 0 0 false false false false false false 0 0 0 0 0) = 0) :
    Calls Tryd.prog 13 #[.agg (Bp.mk 2 0 0 0 0 false false false false false false 0 0 0 0 0).row] w fun e w' => e = .returned (.bool true) ∧ Below w.heap.size w w' := by
  have hC := hide (fun w => BCheck_any (Bp.mk 2 0 0 0 0 false false false false false false 0 0 0 0 0) w hW)
  rw [hE] at hC
  have HW := hide hW
  have hF := hide (fun w hT => tells_any w hT)
  have HT := hide hT
  have hk := heap_alloc_new w (.cells (Bp.row (Bp.mk 2 0 0 0 0 false false false false false false 0 0 0 0 0)) 55)
  clear hT hW hE
  go_enter Tryd.func13, Tryd.ntmps13
  go_wp2_with fail
  refine (hF.out _ (HT.out.later (below1 _ _))).mono ?_
  rintro e w1 ⟨rfl, hb1⟩
  have hk1 := heap_kept hb1 hk
  have hW1 := hide ((below1 w _).later hb1)
  clear hb1 hk hF
  go_wp2_with ((with_reducible change wpList _ _ _ _ _ _); refine wpList_load_row rfl 55 (.tmp 1) rfl w.heap.size rfl 55 _ _ _ hk1 Tryd.underlying55 rfl (bpSize _) ?_)
  refine (hC.out _).mono ?_
  rintro e w2 ⟨rfl, hb2⟩
  have hk2 := heap_kept hb2 hk1
  have hW2 := hide (hW1.out.later hb2)
  have c0 : w2.cell? ⟨w.heap.size, 0, none⟩ = some (.int .i64 2) := (cell_of_row _ _ _ _ _ _ hk2).trans rfl
  have c2 : w2.cell? ⟨w.heap.size, 2, none⟩ = some (.int .u64 0) := (cell_of_row _ _ _ _ _ _ hk2).trans rfl
  have c4 : w2.cell? ⟨w.heap.size, 4, none⟩ = some (.int .i64 0) := (cell_of_row _ _ _ _ _ _ hk2).trans rfl
  have c7 : w2.cell? ⟨w.heap.size, 7, none⟩ = some (.bool false) := (cell_of_row _ _ _ _ _ _ hk2).trans rfl
  have c8 : w2.cell? ⟨w.heap.size, 8, none⟩ = some (.bool false) := (cell_of_row _ _ _ _ _ _ hk2).trans rfl
  have c9 : w2.cell? ⟨w.heap.size, 9, none⟩ = some (.bool false) := (cell_of_row _ _ _ _ _ _ hk2).trans rfl
  have c10 : w2.cell? ⟨w.heap.size, 10, none⟩ = some (.bool false) := (cell_of_row _ _ _ _ _ _ hk2).trans rfl
  have c11 : w2.cell? ⟨w.heap.size, 11, none⟩ = some (.int .i64 0) := (cell_of_row _ _ _ _ _ _ hk2).trans rfl
  have c12 : w2.cell? ⟨w.heap.size, 12, none⟩ = some (.int .i64 0) := (cell_of_row _ _ _ _ _ _ hk2).trans rfl
  have c13 : w2.cell? ⟨w.heap.size, 13, none⟩ = some (.int .i64 0) := (cell_of_row _ _ _ _ _ _ hk2).trans rfl
  have c14 : w2.cell? ⟨w.heap.size, 14, none⟩ = some (.int .i64 0) := (cell_of_row _ _ _ _ _ _ hk2).trans rfl
  have c15 : w2.cell? ⟨w.heap.size, 15, none⟩ = some (.int .i64 0) := (cell_of_row _ _ _ _ _ _ hk2).trans rfl
  clear hb2 hk1 hC hW1
  have heq : ∀ w, (binOp .eql 55 (.agg (Bp.row (Bp.mk 2 0 0 0 0 false false false false false false 0 0 0 0 0))) (.agg (Bp.row Bp.bare))).run Tryd.prog w = .ok (.bool true) w := fun w => by
    rw [bp_eql _ _ HW.out bare_wf]
    rfl
  have hgd := eqGuard_bp
  go_wp2_with ((with_reducible change wpList _ _ _ _ _ _); refine wpList_load_row rfl 55 (.tmp 1) rfl w.heap.size rfl 55 _ _ _ hk2 Tryd.underlying55 rfl (bpSize _) ?_)
  go_ret
  exact ⟨rfl, hW2.out⟩
set_option maxRecDepth 20000 in
set_option maxHeartbeats 1000000 in
theorem BC4 (root cost bridge port role age maxAge hello delay : Int) (change ack proposal agreement learning forwarding : Bool) (w : World) (hT : Tab w) (hW : (Bp.mk 2 root cost bridge port change ack proposal agreement learning forwarding role age maxAge hello delay).wf) (hne : ¬ Bp.mk 2 root cost bridge port change ack proposal agreement learning forwarding role age maxAge hello delay = Bp.bare) (hE : bcheckE (Bp.mk 2 root cost bridge port change ack proposal agreement learning forwarding role age maxAge hello delay) = 1) :
    Calls Tryd.prog 13 #[.agg (Bp.mk 2 root cost bridge port change ack proposal agreement learning forwarding role age maxAge hello delay).row] w fun e w' => e = .returned (.bool true) ∧ Below w.heap.size w w' := by
  have hC := hide (fun w => BCheck_any (Bp.mk 2 root cost bridge port change ack proposal agreement learning forwarding role age maxAge hello delay) w hW)
  rw [hE] at hC
  have HW := hide hW
  have hF := hide (fun w hT => tells_any w hT)
  have HT := hide hT
  have hk := heap_alloc_new w (.cells (Bp.row (Bp.mk 2 root cost bridge port change ack proposal agreement learning forwarding role age maxAge hello delay)) 55)
  clear hT hW hE
  go_enter Tryd.func13, Tryd.ntmps13
  go_wp2_with fail
  refine (hF.out _ (HT.out.later (below1 _ _))).mono ?_
  rintro e w1 ⟨rfl, hb1⟩
  have hk1 := heap_kept hb1 hk
  have hW1 := hide ((below1 w _).later hb1)
  clear hb1 hk hF
  go_wp2_with ((with_reducible change wpList _ _ _ _ _ _); refine wpList_load_row rfl 55 (.tmp 1) rfl w.heap.size rfl 55 _ _ _ hk1 Tryd.underlying55 rfl (bpSize _) ?_)
  refine (hC.out _).mono ?_
  rintro e w2 ⟨rfl, hb2⟩
  have hk2 := heap_kept hb2 hk1
  have hW2 := hide (hW1.out.later hb2)
  have c0 : w2.cell? ⟨w.heap.size, 0, none⟩ = some (.int .i64 2) := (cell_of_row _ _ _ _ _ _ hk2).trans rfl
  have c2 : w2.cell? ⟨w.heap.size, 2, none⟩ = some (.int .u64 cost) := (cell_of_row _ _ _ _ _ _ hk2).trans rfl
  have c4 : w2.cell? ⟨w.heap.size, 4, none⟩ = some (.int .i64 port) := (cell_of_row _ _ _ _ _ _ hk2).trans rfl
  have c7 : w2.cell? ⟨w.heap.size, 7, none⟩ = some (.bool proposal) := (cell_of_row _ _ _ _ _ _ hk2).trans rfl
  have c8 : w2.cell? ⟨w.heap.size, 8, none⟩ = some (.bool agreement) := (cell_of_row _ _ _ _ _ _ hk2).trans rfl
  have c9 : w2.cell? ⟨w.heap.size, 9, none⟩ = some (.bool learning) := (cell_of_row _ _ _ _ _ _ hk2).trans rfl
  have c10 : w2.cell? ⟨w.heap.size, 10, none⟩ = some (.bool forwarding) := (cell_of_row _ _ _ _ _ _ hk2).trans rfl
  have c11 : w2.cell? ⟨w.heap.size, 11, none⟩ = some (.int .i64 role) := (cell_of_row _ _ _ _ _ _ hk2).trans rfl
  have c12 : w2.cell? ⟨w.heap.size, 12, none⟩ = some (.int .i64 age) := (cell_of_row _ _ _ _ _ _ hk2).trans rfl
  have c13 : w2.cell? ⟨w.heap.size, 13, none⟩ = some (.int .i64 maxAge) := (cell_of_row _ _ _ _ _ _ hk2).trans rfl
  have c14 : w2.cell? ⟨w.heap.size, 14, none⟩ = some (.int .i64 hello) := (cell_of_row _ _ _ _ _ _ hk2).trans rfl
  have c15 : w2.cell? ⟨w.heap.size, 15, none⟩ = some (.int .i64 delay) := (cell_of_row _ _ _ _ _ _ hk2).trans rfl
  clear hb2 hk1 hC hW1
  have heq : ∀ w, (binOp .eql 55 (.agg (Bp.row (Bp.mk 2 root cost bridge port change ack proposal agreement learning forwarding role age maxAge hello delay))) (.agg (Bp.row Bp.bare))).run Tryd.prog w = .ok (.bool false) w := fun w => by
    rw [bp_eql _ _ HW.out bare_wf]
    rw [decide_eq_false hne]
  have hgd := eqGuard_bp
  go_wp2_with ((with_reducible change wpList _ _ _ _ _ _); refine wpList_load_row rfl 55 (.tmp 1) rfl w.heap.size rfl 55 _ _ _ hk2 Tryd.underlying55 rfl (bpSize _) ?_)
  go_ret
  exact ⟨rfl, hW2.out⟩
end Go.Proofs.YtiimppbfigikfaaDoor
