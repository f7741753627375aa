/-
  The statement MacChecks, walked. Condition: the table lies as the program's text lays it ('Tab').
-/
import Derived.Test.YtiimppbfigikfaaDoorMacF
import Derived.Test.YtiimppbfigikfaaDoorFlat
namespace Go.Proofs.YtiimppbfigikfaaDoor
open Go.RowKit
set_option linter.unusedVariables false

set_option maxRecDepth 20000 in
theorem Chk1 (h : Hd) (n : Int) (w : World) (hT : Tab w) (hW : h.wf) (hE : checkE h n = 3) (n0 : n < 0) :
    Calls Tryd.prog 6 #[.agg h.row, .int .i64 n] w fun e w' => e = .returned (.bool true) ∧ Below w.heap.size w w' := by
  have hs : 0 ≤ h.s0 ∧ h.s0 ≤ 255 := hW.bytes.2 h.s0 (by simp [Hd.src])
  have hC := hide (fun w => Check_any h n w hs)
  rw [hE] at hC
  have hF := hide (fun w hT => frames_any w hT)
  have HT := hide hT
  have hk := heap_alloc_new w (.cells h.row 27)
  clear hT hW hE
  go_enter Tryd.func6, Tryd.ntmps6
  go_wp2_with fail
  refine (hF.out _ (HT.out.later (below1 _ _))).mono ?_
  rintro e w1 ⟨rfl, hb1⟩
  have hk1 := heap_kept hb1 hk
  have hW1 := hide ((below1 w _).later hb1)
  have c6 : w1.cell? ⟨w.heap.size, 6, none⟩ = some (.int .u8 h.s0) := (cell_of_row _ _ _ _ _ _ hk1).trans rfl
  have c12 : w1.cell? ⟨w.heap.size, 12, none⟩ = some (.bool h.tg) := (cell_of_row _ _ _ _ _ _ hk1).trans rfl
  have c13 : w1.cell? ⟨w.heap.size, 13, none⟩ = some (.int .i64 h.pcp) := (cell_of_row _ _ _ _ _ _ hk1).trans rfl
  have c14 : w1.cell? ⟨w.heap.size, 14, none⟩ = some (.bool h.de) := (cell_of_row _ _ _ _ _ _ hk1).trans rfl
  have c15 : w1.cell? ⟨w.heap.size, 15, none⟩ = some (.int .i64 h.vid) := (cell_of_row _ _ _ _ _ _ hk1).trans rfl
  have c16 : w1.cell? ⟨w.heap.size, 16, none⟩ = some (.int .i64 h.typ) := (cell_of_row _ _ _ _ _ _ hk1).trans rfl
  have c17 : w1.cell? ⟨w.heap.size, 17, none⟩ = some (.bool h.llc) := (cell_of_row _ _ _ _ _ _ hk1).trans rfl
  clear hb1 hk hF
  go_wp2_with (first | (with_reducible change wpList _ _ _ _ _ _; refine wpList_load_row rfl 27 _ rfl w.heap.size rfl 27 _ _ _ hk1 Tryd.underlying27 rfl (hdSize _) ?_) | (go_at_call 23; refine (hC.out _).mono ?_; rintro e w2 ⟨rfl, hb2⟩))
  go_ret
  exact ⟨rfl, hW1.out.later hb2⟩
set_option maxRecDepth 20000 in
theorem Chk2 (h : Hd) (n : Int) (w : World) (hT : Tab w) (hW : h.wf) (hE : checkE h n = 3) (n0 : ¬ n < 0) (n1 : 1500 < n) :
    Calls Tryd.prog 6 #[.agg h.row, .int .i64 n] w fun e w' => e = .returned (.bool true) ∧ Below w.heap.size w w' := by
  have hs : 0 ≤ h.s0 ∧ h.s0 ≤ 255 := hW.bytes.2 h.s0 (by simp [Hd.src])
  have hC := hide (fun w => Check_any h n w hs)
  rw [hE] at hC
  have hF := hide (fun w hT => frames_any w hT)
  have HT := hide hT
  have hk := heap_alloc_new w (.cells h.row 27)
  clear hT hW hE
  go_enter Tryd.func6, Tryd.ntmps6
  go_wp2_with fail
  refine (hF.out _ (HT.out.later (below1 _ _))).mono ?_
  rintro e w1 ⟨rfl, hb1⟩
  have hk1 := heap_kept hb1 hk
  have hW1 := hide ((below1 w _).later hb1)
  have c6 : w1.cell? ⟨w.heap.size, 6, none⟩ = some (.int .u8 h.s0) := (cell_of_row _ _ _ _ _ _ hk1).trans rfl
  have c12 : w1.cell? ⟨w.heap.size, 12, none⟩ = some (.bool h.tg) := (cell_of_row _ _ _ _ _ _ hk1).trans rfl
  have c13 : w1.cell? ⟨w.heap.size, 13, none⟩ = some (.int .i64 h.pcp) := (cell_of_row _ _ _ _ _ _ hk1).trans rfl
  have c14 : w1.cell? ⟨w.heap.size, 14, none⟩ = some (.bool h.de) := (cell_of_row _ _ _ _ _ _ hk1).trans rfl
  have c15 : w1.cell? ⟨w.heap.size, 15, none⟩ = some (.int .i64 h.vid) := (cell_of_row _ _ _ _ _ _ hk1).trans rfl
  have c16 : w1.cell? ⟨w.heap.size, 16, none⟩ = some (.int .i64 h.typ) := (cell_of_row _ _ _ _ _ _ hk1).trans rfl
  have c17 : w1.cell? ⟨w.heap.size, 17, none⟩ = some (.bool h.llc) := (cell_of_row _ _ _ _ _ _ hk1).trans rfl
  clear hb1 hk hF
  go_wp2_with (first | (with_reducible change wpList _ _ _ _ _ _; refine wpList_load_row rfl 27 _ rfl w.heap.size rfl 27 _ _ _ hk1 Tryd.underlying27 rfl (hdSize _) ?_) | (go_at_call 23; refine (hC.out _).mono ?_; rintro e w2 ⟨rfl, hb2⟩))
  go_ret
  exact ⟨rfl, hW1.out.later hb2⟩
set_option maxRecDepth 20000 in
theorem Chk3 (h : Hd) (n : Int) (w : World) (hT : Tab w) (hW : h.wf) (hE : checkE h n = 1) (n0 : ¬ n < 0) (n1 : ¬ 1500 < n) (p0 : h.pcp < 0) :
    Calls Tryd.prog 6 #[.agg h.row, .int .i64 n] w fun e w' => e = .returned (.bool true) ∧ Below w.heap.size w w' := by
  have hs : 0 ≤ h.s0 ∧ h.s0 ≤ 255 := hW.bytes.2 h.s0 (by simp [Hd.src])
  have hC := hide (fun w => Check_any h n w hs)
  rw [hE] at hC
  have hF := hide (fun w hT => frames_any w hT)
  have HT := hide hT
  have hk := heap_alloc_new w (.cells h.row 27)
  clear hT hW hE
  go_enter Tryd.func6, Tryd.ntmps6
  go_wp2_with fail
  refine (hF.out _ (HT.out.later (below1 _ _))).mono ?_
  rintro e w1 ⟨rfl, hb1⟩
  have hk1 := heap_kept hb1 hk
  have hW1 := hide ((below1 w _).later hb1)
  have c6 : w1.cell? ⟨w.heap.size, 6, none⟩ = some (.int .u8 h.s0) := (cell_of_row _ _ _ _ _ _ hk1).trans rfl
  have c12 : w1.cell? ⟨w.heap.size, 12, none⟩ = some (.bool h.tg) := (cell_of_row _ _ _ _ _ _ hk1).trans rfl
  have c13 : w1.cell? ⟨w.heap.size, 13, none⟩ = some (.int .i64 h.pcp) := (cell_of_row _ _ _ _ _ _ hk1).trans rfl
  have c14 : w1.cell? ⟨w.heap.size, 14, none⟩ = some (.bool h.de) := (cell_of_row _ _ _ _ _ _ hk1).trans rfl
  have c15 : w1.cell? ⟨w.heap.size, 15, none⟩ = some (.int .i64 h.vid) := (cell_of_row _ _ _ _ _ _ hk1).trans rfl
  have c16 : w1.cell? ⟨w.heap.size, 16, none⟩ = some (.int .i64 h.typ) := (cell_of_row _ _ _ _ _ _ hk1).trans rfl
  have c17 : w1.cell? ⟨w.heap.size, 17, none⟩ = some (.bool h.llc) := (cell_of_row _ _ _ _ _ _ hk1).trans rfl
  clear hb1 hk hF
  go_wp2_with (first | (with_reducible change wpList _ _ _ _ _ _; refine wpList_load_row rfl 27 _ rfl w.heap.size rfl 27 _ _ _ hk1 Tryd.underlying27 rfl (hdSize _) ?_) | (go_at_call 23; refine (hC.out _).mono ?_; rintro e w2 ⟨rfl, hb2⟩))
  go_ret
  exact ⟨rfl, hW1.out.later hb2⟩
set_option maxRecDepth 20000 in
theorem Chk4 (h : Hd) (n : Int) (w : World) (hT : Tab w) (hW : h.wf) (hE : checkE h n = 1) (n0 : ¬ n < 0) (n1 : ¬ 1500 < n) (p0 : ¬ h.pcp < 0) (p1 : 7 < h.pcp) :
    Calls Tryd.prog 6 #[.agg h.row, .int .i64 n] w fun e w' => e = .returned (.bool true) ∧ Below w.heap.size w w' := by
  have hs : 0 ≤ h.s0 ∧ h.s0 ≤ 255 := hW.bytes.2 h.s0 (by simp [Hd.src])
  have hC := hide (fun w => Check_any h n w hs)
  rw [hE] at hC
  have hF := hide (fun w hT => frames_any w hT)
  have HT := hide hT
  have hk := heap_alloc_new w (.cells h.row 27)
  clear hT hW hE
  go_enter Tryd.func6, Tryd.ntmps6
  go_wp2_with fail
  refine (hF.out _ (HT.out.later (below1 _ _))).mono ?_
  rintro e w1 ⟨rfl, hb1⟩
  have hk1 := heap_kept hb1 hk
  have hW1 := hide ((below1 w _).later hb1)
  have c6 : w1.cell? ⟨w.heap.size, 6, none⟩ = some (.int .u8 h.s0) := (cell_of_row _ _ _ _ _ _ hk1).trans rfl
  have c12 : w1.cell? ⟨w.heap.size, 12, none⟩ = some (.bool h.tg) := (cell_of_row _ _ _ _ _ _ hk1).trans rfl
  have c13 : w1.cell? ⟨w.heap.size, 13, none⟩ = some (.int .i64 h.pcp) := (cell_of_row _ _ _ _ _ _ hk1).trans rfl
  have c14 : w1.cell? ⟨w.heap.size, 14, none⟩ = some (.bool h.de) := (cell_of_row _ _ _ _ _ _ hk1).trans rfl
  have c15 : w1.cell? ⟨w.heap.size, 15, none⟩ = some (.int .i64 h.vid) := (cell_of_row _ _ _ _ _ _ hk1).trans rfl
  have c16 : w1.cell? ⟨w.heap.size, 16, none⟩ = some (.int .i64 h.typ) := (cell_of_row _ _ _ _ _ _ hk1).trans rfl
  have c17 : w1.cell? ⟨w.heap.size, 17, none⟩ = some (.bool h.llc) := (cell_of_row _ _ _ _ _ _ hk1).trans rfl
  clear hb1 hk hF
  go_wp2_with (first | (with_reducible change wpList _ _ _ _ _ _; refine wpList_load_row rfl 27 _ rfl w.heap.size rfl 27 _ _ _ hk1 Tryd.underlying27 rfl (hdSize _) ?_) | (go_at_call 23; refine (hC.out _).mono ?_; rintro e w2 ⟨rfl, hb2⟩))
  go_ret
  exact ⟨rfl, hW1.out.later hb2⟩
set_option maxRecDepth 20000 in
theorem Chk5 (h : Hd) (n : Int) (w : World) (hT : Tab w) (hW : h.wf) (hE : checkE h n = 1) (n0 : ¬ n < 0) (n1 : ¬ 1500 < n) (p0 : ¬ h.pcp < 0) (p1 : ¬ 7 < h.pcp) (v0 : h.vid < 0) :
    Calls Tryd.prog 6 #[.agg h.row, .int .i64 n] w fun e w' => e = .returned (.bool true) ∧ Below w.heap.size w w' := by
  have hs : 0 ≤ h.s0 ∧ h.s0 ≤ 255 := hW.bytes.2 h.s0 (by simp [Hd.src])
  have hC := hide (fun w => Check_any h n w hs)
  rw [hE] at hC
  have hF := hide (fun w hT => frames_any w hT)
  have HT := hide hT
  have hk := heap_alloc_new w (.cells h.row 27)
  clear hT hW hE
  go_enter Tryd.func6, Tryd.ntmps6
  go_wp2_with fail
  refine (hF.out _ (HT.out.later (below1 _ _))).mono ?_
  rintro e w1 ⟨rfl, hb1⟩
  have hk1 := heap_kept hb1 hk
  have hW1 := hide ((below1 w _).later hb1)
  have c6 : w1.cell? ⟨w.heap.size, 6, none⟩ = some (.int .u8 h.s0) := (cell_of_row _ _ _ _ _ _ hk1).trans rfl
  have c12 : w1.cell? ⟨w.heap.size, 12, none⟩ = some (.bool h.tg) := (cell_of_row _ _ _ _ _ _ hk1).trans rfl
  have c13 : w1.cell? ⟨w.heap.size, 13, none⟩ = some (.int .i64 h.pcp) := (cell_of_row _ _ _ _ _ _ hk1).trans rfl
  have c14 : w1.cell? ⟨w.heap.size, 14, none⟩ = some (.bool h.de) := (cell_of_row _ _ _ _ _ _ hk1).trans rfl
  have c15 : w1.cell? ⟨w.heap.size, 15, none⟩ = some (.int .i64 h.vid) := (cell_of_row _ _ _ _ _ _ hk1).trans rfl
  have c16 : w1.cell? ⟨w.heap.size, 16, none⟩ = some (.int .i64 h.typ) := (cell_of_row _ _ _ _ _ _ hk1).trans rfl
  have c17 : w1.cell? ⟨w.heap.size, 17, none⟩ = some (.bool h.llc) := (cell_of_row _ _ _ _ _ _ hk1).trans rfl
  clear hb1 hk hF
  go_wp2_with (first | (with_reducible change wpList _ _ _ _ _ _; refine wpList_load_row rfl 27 _ rfl w.heap.size rfl 27 _ _ _ hk1 Tryd.underlying27 rfl (hdSize _) ?_) | (go_at_call 23; refine (hC.out _).mono ?_; rintro e w2 ⟨rfl, hb2⟩))
  go_ret
  exact ⟨rfl, hW1.out.later hb2⟩
set_option maxRecDepth 20000 in
theorem Chk6 (h : Hd) (n : Int) (w : World) (hT : Tab w) (hW : h.wf) (hE : checkE h n = 1) (n0 : ¬ n < 0) (n1 : ¬ 1500 < n) (p0 : ¬ h.pcp < 0) (p1 : ¬ 7 < h.pcp) (v0 : ¬ h.vid < 0) (v1 : 4095 ≤ h.vid) :
    Calls Tryd.prog 6 #[.agg h.row, .int .i64 n] w fun e w' => e = .returned (.bool true) ∧ Below w.heap.size w w' := by
  have hs : 0 ≤ h.s0 ∧ h.s0 ≤ 255 := hW.bytes.2 h.s0 (by simp [Hd.src])
  have hC := hide (fun w => Check_any h n w hs)
  rw [hE] at hC
  have hF := hide (fun w hT => frames_any w hT)
  have HT := hide hT
  have hk := heap_alloc_new w (.cells h.row 27)
  clear hT hW hE
  go_enter Tryd.func6, Tryd.ntmps6
  go_wp2_with fail
  refine (hF.out _ (HT.out.later (below1 _ _))).mono ?_
  rintro e w1 ⟨rfl, hb1⟩
  have hk1 := heap_kept hb1 hk
  have hW1 := hide ((below1 w _).later hb1)
  have c6 : w1.cell? ⟨w.heap.size, 6, none⟩ = some (.int .u8 h.s0) := (cell_of_row _ _ _ _ _ _ hk1).trans rfl
  have c12 : w1.cell? ⟨w.heap.size, 12, none⟩ = some (.bool h.tg) := (cell_of_row _ _ _ _ _ _ hk1).trans rfl
  have c13 : w1.cell? ⟨w.heap.size, 13, none⟩ = some (.int .i64 h.pcp) := (cell_of_row _ _ _ _ _ _ hk1).trans rfl
  have c14 : w1.cell? ⟨w.heap.size, 14, none⟩ = some (.bool h.de) := (cell_of_row _ _ _ _ _ _ hk1).trans rfl
  have c15 : w1.cell? ⟨w.heap.size, 15, none⟩ = some (.int .i64 h.vid) := (cell_of_row _ _ _ _ _ _ hk1).trans rfl
  have c16 : w1.cell? ⟨w.heap.size, 16, none⟩ = some (.int .i64 h.typ) := (cell_of_row _ _ _ _ _ _ hk1).trans rfl
  have c17 : w1.cell? ⟨w.heap.size, 17, none⟩ = some (.bool h.llc) := (cell_of_row _ _ _ _ _ _ hk1).trans rfl
  clear hb1 hk hF
  go_wp2_with (first | (with_reducible change wpList _ _ _ _ _ _; refine wpList_load_row rfl 27 _ rfl w.heap.size rfl 27 _ _ _ hk1 Tryd.underlying27 rfl (hdSize _) ?_) | (go_at_call 23; refine (hC.out _).mono ?_; rintro e w2 ⟨rfl, hb2⟩))
  go_ret
  exact ⟨rfl, hW1.out.later hb2⟩
set_option maxRecDepth 20000 in
theorem Chk7 (h : Hd) (n : Int) (w : World) (hT : Tab w) (hW : h.wf) (hE : checkE h n = 1) (n0 : ¬ n < 0) (n1 : ¬ 1500 < n) (p0 : ¬ h.pcp < 0) (p1 : ¬ 7 < h.pcp) (v0 : ¬ h.vid < 0) (v1 : ¬ 4095 ≤ h.vid) (t : h.tg = false) (q0 : 0 < h.pcp) :
    Calls Tryd.prog 6 #[.agg h.row, .int .i64 n] w fun e w' => e = .returned (.bool true) ∧ Below w.heap.size w w' := by
  have hs : 0 ≤ h.s0 ∧ h.s0 ≤ 255 := hW.bytes.2 h.s0 (by simp [Hd.src])
  have hC := hide (fun w => Check_any h n w hs)
  rw [hE] at hC
  have hF := hide (fun w hT => frames_any w hT)
  have HT := hide hT
  have hk := heap_alloc_new w (.cells h.row 27)
  clear hT hW hE
  go_enter Tryd.func6, Tryd.ntmps6
  go_wp2_with fail
  refine (hF.out _ (HT.out.later (below1 _ _))).mono ?_
  rintro e w1 ⟨rfl, hb1⟩
  have hk1 := heap_kept hb1 hk
  have hW1 := hide ((below1 w _).later hb1)
  have c6 : w1.cell? ⟨w.heap.size, 6, none⟩ = some (.int .u8 h.s0) := (cell_of_row _ _ _ _ _ _ hk1).trans rfl
  have c12 : w1.cell? ⟨w.heap.size, 12, none⟩ = some (.bool h.tg) := (cell_of_row _ _ _ _ _ _ hk1).trans rfl
  have c13 : w1.cell? ⟨w.heap.size, 13, none⟩ = some (.int .i64 h.pcp) := (cell_of_row _ _ _ _ _ _ hk1).trans rfl
  have c14 : w1.cell? ⟨w.heap.size, 14, none⟩ = some (.bool h.de) := (cell_of_row _ _ _ _ _ _ hk1).trans rfl
  have c15 : w1.cell? ⟨w.heap.size, 15, none⟩ = some (.int .i64 h.vid) := (cell_of_row _ _ _ _ _ _ hk1).trans rfl
  have c16 : w1.cell? ⟨w.heap.size, 16, none⟩ = some (.int .i64 h.typ) := (cell_of_row _ _ _ _ _ _ hk1).trans rfl
  have c17 : w1.cell? ⟨w.heap.size, 17, none⟩ = some (.bool h.llc) := (cell_of_row _ _ _ _ _ _ hk1).trans rfl
  clear hb1 hk hF
  rw [t] at c12
  go_wp2_with (first | (with_reducible change wpList _ _ _ _ _ _; refine wpList_load_row rfl 27 _ rfl w.heap.size rfl 27 _ _ _ hk1 Tryd.underlying27 rfl (hdSize _) ?_) | (go_at_call 23; refine (hC.out _).mono ?_; rintro e w2 ⟨rfl, hb2⟩))
  go_ret
  exact ⟨rfl, hW1.out.later hb2⟩
set_option maxRecDepth 20000 in
theorem Chk8 (h : Hd) (n : Int) (w : World) (hT : Tab w) (hW : h.wf) (hE : checkE h n = 1) (n0 : ¬ n < 0) (n1 : ¬ 1500 < n) (p0 : ¬ h.pcp < 0) (p1 : ¬ 7 < h.pcp) (v0 : ¬ h.vid < 0) (v1 : ¬ 4095 ≤ h.vid) (t : h.tg = false) (q0 : ¬ 0 < h.pcp) (q1 : h.de = true) :
    Calls Tryd.prog 6 #[.agg h.row, .int .i64 n] w fun e w' => e = .returned (.bool true) ∧ Below w.heap.size w w' := by
  have hs : 0 ≤ h.s0 ∧ h.s0 ≤ 255 := hW.bytes.2 h.s0 (by simp [Hd.src])
  have hC := hide (fun w => Check_any h n w hs)
  rw [hE] at hC
  have hF := hide (fun w hT => frames_any w hT)
  have HT := hide hT
  have hk := heap_alloc_new w (.cells h.row 27)
  clear hT hW hE
  go_enter Tryd.func6, Tryd.ntmps6
  go_wp2_with fail
  refine (hF.out _ (HT.out.later (below1 _ _))).mono ?_
  rintro e w1 ⟨rfl, hb1⟩
  have hk1 := heap_kept hb1 hk
  have hW1 := hide ((below1 w _).later hb1)
  have c6 : w1.cell? ⟨w.heap.size, 6, none⟩ = some (.int .u8 h.s0) := (cell_of_row _ _ _ _ _ _ hk1).trans rfl
  have c12 : w1.cell? ⟨w.heap.size, 12, none⟩ = some (.bool h.tg) := (cell_of_row _ _ _ _ _ _ hk1).trans rfl
  have c13 : w1.cell? ⟨w.heap.size, 13, none⟩ = some (.int .i64 h.pcp) := (cell_of_row _ _ _ _ _ _ hk1).trans rfl
  have c14 : w1.cell? ⟨w.heap.size, 14, none⟩ = some (.bool h.de) := (cell_of_row _ _ _ _ _ _ hk1).trans rfl
  have c15 : w1.cell? ⟨w.heap.size, 15, none⟩ = some (.int .i64 h.vid) := (cell_of_row _ _ _ _ _ _ hk1).trans rfl
  have c16 : w1.cell? ⟨w.heap.size, 16, none⟩ = some (.int .i64 h.typ) := (cell_of_row _ _ _ _ _ _ hk1).trans rfl
  have c17 : w1.cell? ⟨w.heap.size, 17, none⟩ = some (.bool h.llc) := (cell_of_row _ _ _ _ _ _ hk1).trans rfl
  clear hb1 hk hF
  rw [t] at c12
  rw [q1] at c14
  go_wp2_with (first | (with_reducible change wpList _ _ _ _ _ _; refine wpList_load_row rfl 27 _ rfl w.heap.size rfl 27 _ _ _ hk1 Tryd.underlying27 rfl (hdSize _) ?_) | (go_at_call 23; refine (hC.out _).mono ?_; rintro e w2 ⟨rfl, hb2⟩))
  go_ret
  exact ⟨rfl, hW1.out.later hb2⟩
set_option maxRecDepth 20000 in
theorem Chk9 (h : Hd) (n : Int) (w : World) (hT : Tab w) (hW : h.wf) (hE : checkE h n = 1) (n0 : ¬ n < 0) (n1 : ¬ 1500 < n) (p0 : ¬ h.pcp < 0) (p1 : ¬ 7 < h.pcp) (v0 : ¬ h.vid < 0) (v1 : ¬ 4095 ≤ h.vid) (t : h.tg = false) (q0 : ¬ 0 < h.pcp) (q1 : h.de = false) (q2 : 0 < h.vid) :
    Calls Tryd.prog 6 #[.agg h.row, .int .i64 n] w fun e w' => e = .returned (.bool true) ∧ Below w.heap.size w w' := by
  have hs : 0 ≤ h.s0 ∧ h.s0 ≤ 255 := hW.bytes.2 h.s0 (by simp [Hd.src])
  have hC := hide (fun w => Check_any h n w hs)
  rw [hE] at hC
  have hF := hide (fun w hT => frames_any w hT)
  have HT := hide hT
  have hk := heap_alloc_new w (.cells h.row 27)
  clear hT hW hE
  go_enter Tryd.func6, Tryd.ntmps6
  go_wp2_with fail
  refine (hF.out _ (HT.out.later (below1 _ _))).mono ?_
  rintro e w1 ⟨rfl, hb1⟩
  have hk1 := heap_kept hb1 hk
  have hW1 := hide ((below1 w _).later hb1)
  have c6 : w1.cell? ⟨w.heap.size, 6, none⟩ = some (.int .u8 h.s0) := (cell_of_row _ _ _ _ _ _ hk1).trans rfl
  have c12 : w1.cell? ⟨w.heap.size, 12, none⟩ = some (.bool h.tg) := (cell_of_row _ _ _ _ _ _ hk1).trans rfl
  have c13 : w1.cell? ⟨w.heap.size, 13, none⟩ = some (.int .i64 h.pcp) := (cell_of_row _ _ _ _ _ _ hk1).trans rfl
  have c14 : w1.cell? ⟨w.heap.size, 14, none⟩ = some (.bool h.de) := (cell_of_row _ _ _ _ _ _ hk1).trans rfl
  have c15 : w1.cell? ⟨w.heap.size, 15, none⟩ = some (.int .i64 h.vid) := (cell_of_row _ _ _ _ _ _ hk1).trans rfl
  have c16 : w1.cell? ⟨w.heap.size, 16, none⟩ = some (.int .i64 h.typ) := (cell_of_row _ _ _ _ _ _ hk1).trans rfl
  have c17 : w1.cell? ⟨w.heap.size, 17, none⟩ = some (.bool h.llc) := (cell_of_row _ _ _ _ _ _ hk1).trans rfl
  clear hb1 hk hF
  rw [t] at c12
  rw [q1] at c14
  go_wp2_with (first | (with_reducible change wpList _ _ _ _ _ _; refine wpList_load_row rfl 27 _ rfl w.heap.size rfl 27 _ _ _ hk1 Tryd.underlying27 rfl (hdSize _) ?_) | (go_at_call 23; refine (hC.out _).mono ?_; rintro e w2 ⟨rfl, hb2⟩))
  go_ret
  exact ⟨rfl, hW1.out.later hb2⟩
set_option maxRecDepth 20000 in
theorem ChkOF (h : Hd) (n : Int) (w : World) (hT : Tab w) (hW : h.wf) (hE : checkE h n = 4) (n0 : ¬ n < 0) (n1 : ¬ 1500 < n) (p0 : ¬ h.pcp < 0) (p1 : ¬ 7 < h.pcp) (v0 : ¬ h.vid < 0) (v1 : ¬ 4095 ≤ h.vid) (t : h.tg = false) (q0 : ¬ 0 < h.pcp) (q1 : h.de = false) (q2 : ¬ 0 < h.vid) (o : h.s0 % 2 = 1) :
    Calls Tryd.prog 6 #[.agg h.row, .int .i64 n] w fun e w' => e = .returned (.bool true) ∧ Below w.heap.size w w' := by
  have hs : 0 ≤ h.s0 ∧ h.s0 ≤ 255 := hW.bytes.2 h.s0 (by simp [Hd.src])
  have hC := hide (fun w => Check_any h n w hs)
  rw [hE] at hC
  have hF := hide (fun w hT => frames_any w hT)
  have HT := hide hT
  have hk := heap_alloc_new w (.cells h.row 27)
  clear hT hW hE
  go_enter Tryd.func6, Tryd.ntmps6
  go_wp2_with fail
  refine (hF.out _ (HT.out.later (below1 _ _))).mono ?_
  rintro e w1 ⟨rfl, hb1⟩
  have hk1 := heap_kept hb1 hk
  have hW1 := hide ((below1 w _).later hb1)
  have c6 : w1.cell? ⟨w.heap.size, 6, none⟩ = some (.int .u8 h.s0) := (cell_of_row _ _ _ _ _ _ hk1).trans rfl
  have c12 : w1.cell? ⟨w.heap.size, 12, none⟩ = some (.bool h.tg) := (cell_of_row _ _ _ _ _ _ hk1).trans rfl
  have c13 : w1.cell? ⟨w.heap.size, 13, none⟩ = some (.int .i64 h.pcp) := (cell_of_row _ _ _ _ _ _ hk1).trans rfl
  have c14 : w1.cell? ⟨w.heap.size, 14, none⟩ = some (.bool h.de) := (cell_of_row _ _ _ _ _ _ hk1).trans rfl
  have c15 : w1.cell? ⟨w.heap.size, 15, none⟩ = some (.int .i64 h.vid) := (cell_of_row _ _ _ _ _ _ hk1).trans rfl
  have c16 : w1.cell? ⟨w.heap.size, 16, none⟩ = some (.int .i64 h.typ) := (cell_of_row _ _ _ _ _ _ hk1).trans rfl
  have c17 : w1.cell? ⟨w.heap.size, 17, none⟩ = some (.bool h.llc) := (cell_of_row _ _ _ _ _ _ hk1).trans rfl
  clear hb1 hk hF
  rw [t] at c12
  rw [q1] at c14
  go_wp2_with (first | (with_reducible change wpList _ _ _ _ _ _; refine wpList_load_row rfl 27 _ rfl w.heap.size rfl 27 _ _ _ hk1 Tryd.underlying27 rfl (hdSize _) ?_) | (go_at_call 23; refine (hC.out _).mono ?_; rintro e w2 ⟨rfl, hb2⟩))
  go_ret
  exact ⟨rfl, hW1.out.later hb2⟩
set_option maxRecDepth 20000 in
theorem ChkLF (h : Hd) (n : Int) (w : World) (hT : Tab w) (hW : h.wf) (hE : checkE h n = 4) (n0 : ¬ n < 0) (n1 : ¬ 1500 < n) (p0 : ¬ h.pcp < 0) (p1 : ¬ 7 < h.pcp) (v0 : ¬ h.vid < 0) (v1 : ¬ 4095 ≤ h.vid) (t : h.tg = false) (q0 : ¬ 0 < h.pcp) (q1 : h.de = false) (q2 : ¬ 0 < h.vid) (o : ¬ h.s0 % 2 = 1) (l : h.llc = true) (y : ¬ h.typ = n) :
    Calls Tryd.prog 6 #[.agg h.row, .int .i64 n] w fun e w' => e = .returned (.bool true) ∧ Below w.heap.size w w' := by
  have hs : 0 ≤ h.s0 ∧ h.s0 ≤ 255 := hW.bytes.2 h.s0 (by simp [Hd.src])
  have hC := hide (fun w => Check_any h n w hs)
  rw [hE] at hC
  have hF := hide (fun w hT => frames_any w hT)
  have HT := hide hT
  have hk := heap_alloc_new w (.cells h.row 27)
  clear hT hW hE
  go_enter Tryd.func6, Tryd.ntmps6
  go_wp2_with fail
  refine (hF.out _ (HT.out.later (below1 _ _))).mono ?_
  rintro e w1 ⟨rfl, hb1⟩
  have hk1 := heap_kept hb1 hk
  have hW1 := hide ((below1 w _).later hb1)
  have c6 : w1.cell? ⟨w.heap.size, 6, none⟩ = some (.int .u8 h.s0) := (cell_of_row _ _ _ _ _ _ hk1).trans rfl
  have c12 : w1.cell? ⟨w.heap.size, 12, none⟩ = some (.bool h.tg) := (cell_of_row _ _ _ _ _ _ hk1).trans rfl
  have c13 : w1.cell? ⟨w.heap.size, 13, none⟩ = some (.int .i64 h.pcp) := (cell_of_row _ _ _ _ _ _ hk1).trans rfl
  have c14 : w1.cell? ⟨w.heap.size, 14, none⟩ = some (.bool h.de) := (cell_of_row _ _ _ _ _ _ hk1).trans rfl
  have c15 : w1.cell? ⟨w.heap.size, 15, none⟩ = some (.int .i64 h.vid) := (cell_of_row _ _ _ _ _ _ hk1).trans rfl
  have c16 : w1.cell? ⟨w.heap.size, 16, none⟩ = some (.int .i64 h.typ) := (cell_of_row _ _ _ _ _ _ hk1).trans rfl
  have c17 : w1.cell? ⟨w.heap.size, 17, none⟩ = some (.bool h.llc) := (cell_of_row _ _ _ _ _ _ hk1).trans rfl
  clear hb1 hk hF
  rw [t] at c12
  rw [q1] at c14
  rw [l] at c17
  go_wp2_with (first | (with_reducible change wpList _ _ _ _ _ _; refine wpList_load_row rfl 27 _ rfl w.heap.size rfl 27 _ _ _ hk1 Tryd.underlying27 rfl (hdSize _) ?_) | (go_at_call 23; refine (hC.out _).mono ?_; rintro e w2 ⟨rfl, hb2⟩))
  go_ret
  exact ⟨rfl, hW1.out.later hb2⟩
set_option maxRecDepth 20000 in
theorem ChkMF (h : Hd) (n : Int) (w : World) (hT : Tab w) (hW : h.wf) (hE : checkE h n = 0) (n0 : ¬ n < 0) (n1 : ¬ 1500 < n) (p0 : ¬ h.pcp < 0) (p1 : ¬ 7 < h.pcp) (v0 : ¬ h.vid < 0) (v1 : ¬ 4095 ≤ h.vid) (t : h.tg = false) (q0 : ¬ 0 < h.pcp) (q1 : h.de = false) (q2 : ¬ 0 < h.vid) (o : ¬ h.s0 % 2 = 1) (l : h.llc = true) (y : h.typ = n) :
    Calls Tryd.prog 6 #[.agg h.row, .int .i64 n] w fun e w' => e = .returned (.bool true) ∧ Below w.heap.size w w' := by
  have hs : 0 ≤ h.s0 ∧ h.s0 ≤ 255 := hW.bytes.2 h.s0 (by simp [Hd.src])
  have hC := hide (fun w => Check_any h n w hs)
  rw [hE] at hC
  have hF := hide (fun w hT => frames_any w hT)
  have HT := hide hT
  have hk := heap_alloc_new w (.cells h.row 27)
  clear hT hW hE
  go_enter Tryd.func6, Tryd.ntmps6
  go_wp2_with fail
  refine (hF.out _ (HT.out.later (below1 _ _))).mono ?_
  rintro e w1 ⟨rfl, hb1⟩
  have hk1 := heap_kept hb1 hk
  have hW1 := hide ((below1 w _).later hb1)
  have c6 : w1.cell? ⟨w.heap.size, 6, none⟩ = some (.int .u8 h.s0) := (cell_of_row _ _ _ _ _ _ hk1).trans rfl
  have c12 : w1.cell? ⟨w.heap.size, 12, none⟩ = some (.bool h.tg) := (cell_of_row _ _ _ _ _ _ hk1).trans rfl
  have c13 : w1.cell? ⟨w.heap.size, 13, none⟩ = some (.int .i64 h.pcp) := (cell_of_row _ _ _ _ _ _ hk1).trans rfl
  have c14 : w1.cell? ⟨w.heap.size, 14, none⟩ = some (.bool h.de) := (cell_of_row _ _ _ _ _ _ hk1).trans rfl
  have c15 : w1.cell? ⟨w.heap.size, 15, none⟩ = some (.int .i64 h.vid) := (cell_of_row _ _ _ _ _ _ hk1).trans rfl
  have c16 : w1.cell? ⟨w.heap.size, 16, none⟩ = some (.int .i64 h.typ) := (cell_of_row _ _ _ _ _ _ hk1).trans rfl
  have c17 : w1.cell? ⟨w.heap.size, 17, none⟩ = some (.bool h.llc) := (cell_of_row _ _ _ _ _ _ hk1).trans rfl
  clear hb1 hk hF
  rw [t] at c12
  rw [q1] at c14
  rw [l] at c17
  go_wp2_with (first | (with_reducible change wpList _ _ _ _ _ _; refine wpList_load_row rfl 27 _ rfl w.heap.size rfl 27 _ _ _ hk1 Tryd.underlying27 rfl (hdSize _) ?_) | (go_at_call 23; refine (hC.out _).mono ?_; rintro e w2 ⟨rfl, hb2⟩))
  go_ret
  exact ⟨rfl, hW1.out.later hb2⟩
set_option maxRecDepth 20000 in
theorem ChkAF (h : Hd) (n : Int) (w : World) (hT : Tab w) (hW : h.wf) (hE : checkE h n = 4) (n0 : ¬ n < 0) (n1 : ¬ 1500 < n) (p0 : ¬ h.pcp < 0) (p1 : ¬ 7 < h.pcp) (v0 : ¬ h.vid < 0) (v1 : ¬ 4095 ≤ h.vid) (t : h.tg = false) (q0 : ¬ 0 < h.pcp) (q1 : h.de = false) (q2 : ¬ 0 < h.vid) (o : ¬ h.s0 % 2 = 1) (l : h.llc = false) (y : h.typ < 1536) :
    Calls Tryd.prog 6 #[.agg h.row, .int .i64 n] w fun e w' => e = .returned (.bool true) ∧ Below w.heap.size w w' := by
  have hs : 0 ≤ h.s0 ∧ h.s0 ≤ 255 := hW.bytes.2 h.s0 (by simp [Hd.src])
  have hC := hide (fun w => Check_any h n w hs)
  rw [hE] at hC
  have hF := hide (fun w hT => frames_any w hT)
  have HT := hide hT
  have hk := heap_alloc_new w (.cells h.row 27)
  clear hT hW hE
  go_enter Tryd.func6, Tryd.ntmps6
  go_wp2_with fail
  refine (hF.out _ (HT.out.later (below1 _ _))).mono ?_
  rintro e w1 ⟨rfl, hb1⟩
  have hk1 := heap_kept hb1 hk
  have hW1 := hide ((below1 w _).later hb1)
  have c6 : w1.cell? ⟨w.heap.size, 6, none⟩ = some (.int .u8 h.s0) := (cell_of_row _ _ _ _ _ _ hk1).trans rfl
  have c12 : w1.cell? ⟨w.heap.size, 12, none⟩ = some (.bool h.tg) := (cell_of_row _ _ _ _ _ _ hk1).trans rfl
  have c13 : w1.cell? ⟨w.heap.size, 13, none⟩ = some (.int .i64 h.pcp) := (cell_of_row _ _ _ _ _ _ hk1).trans rfl
  have c14 : w1.cell? ⟨w.heap.size, 14, none⟩ = some (.bool h.de) := (cell_of_row _ _ _ _ _ _ hk1).trans rfl
  have c15 : w1.cell? ⟨w.heap.size, 15, none⟩ = some (.int .i64 h.vid) := (cell_of_row _ _ _ _ _ _ hk1).trans rfl
  have c16 : w1.cell? ⟨w.heap.size, 16, none⟩ = some (.int .i64 h.typ) := (cell_of_row _ _ _ _ _ _ hk1).trans rfl
  have c17 : w1.cell? ⟨w.heap.size, 17, none⟩ = some (.bool h.llc) := (cell_of_row _ _ _ _ _ _ hk1).trans rfl
  clear hb1 hk hF
  rw [t] at c12
  rw [q1] at c14
  rw [l] at c17
  go_wp2_with (first | (with_reducible change wpList _ _ _ _ _ _; refine wpList_load_row rfl 27 _ rfl w.heap.size rfl 27 _ _ _ hk1 Tryd.underlying27 rfl (hdSize _) ?_) | (go_at_call 23; refine (hC.out _).mono ?_; rintro e w2 ⟨rfl, hb2⟩))
  go_ret
  exact ⟨rfl, hW1.out.later hb2⟩
set_option maxRecDepth 20000 in
theorem ChkBF (h : Hd) (n : Int) (w : World) (hT : Tab w) (hW : h.wf) (hE : checkE h n = 4) (n0 : ¬ n < 0) (n1 : ¬ 1500 < n) (p0 : ¬ h.pcp < 0) (p1 : ¬ 7 < h.pcp) (v0 : ¬ h.vid < 0) (v1 : ¬ 4095 ≤ h.vid) (t : h.tg = false) (q0 : ¬ 0 < h.pcp) (q1 : h.de = false) (q2 : ¬ 0 < h.vid) (o : ¬ h.s0 % 2 = 1) (l : h.llc = false) (y : ¬ h.typ < 1536) (z : 65535 < h.typ) :
    Calls Tryd.prog 6 #[.agg h.row, .int .i64 n] w fun e w' => e = .returned (.bool true) ∧ Below w.heap.size w w' := by
  have hs : 0 ≤ h.s0 ∧ h.s0 ≤ 255 := hW.bytes.2 h.s0 (by simp [Hd.src])
  have hC := hide (fun w => Check_any h n w hs)
  rw [hE] at hC
  have hF := hide (fun w hT => frames_any w hT)
  have HT := hide hT
  have hk := heap_alloc_new w (.cells h.row 27)
  clear hT hW hE
  go_enter Tryd.func6, Tryd.ntmps6
  go_wp2_with fail
  refine (hF.out _ (HT.out.later (below1 _ _))).mono ?_
  rintro e w1 ⟨rfl, hb1⟩
  have hk1 := heap_kept hb1 hk
  have hW1 := hide ((below1 w _).later hb1)
  have c6 : w1.cell? ⟨w.heap.size, 6, none⟩ = some (.int .u8 h.s0) := (cell_of_row _ _ _ _ _ _ hk1).trans rfl
  have c12 : w1.cell? ⟨w.heap.size, 12, none⟩ = some (.bool h.tg) := (cell_of_row _ _ _ _ _ _ hk1).trans rfl
  have c13 : w1.cell? ⟨w.heap.size, 13, none⟩ = some (.int .i64 h.pcp) := (cell_of_row _ _ _ _ _ _ hk1).trans rfl
  have c14 : w1.cell? ⟨w.heap.size, 14, none⟩ = some (.bool h.de) := (cell_of_row _ _ _ _ _ _ hk1).trans rfl
  have c15 : w1.cell? ⟨w.heap.size, 15, none⟩ = some (.int .i64 h.vid) := (cell_of_row _ _ _ _ _ _ hk1).trans rfl
  have c16 : w1.cell? ⟨w.heap.size, 16, none⟩ = some (.int .i64 h.typ) := (cell_of_row _ _ _ _ _ _ hk1).trans rfl
  have c17 : w1.cell? ⟨w.heap.size, 17, none⟩ = some (.bool h.llc) := (cell_of_row _ _ _ _ _ _ hk1).trans rfl
  clear hb1 hk hF
  rw [t] at c12
  rw [q1] at c14
  rw [l] at c17
  go_wp2_with (first | (with_reducible change wpList _ _ _ _ _ _; refine wpList_load_row rfl 27 _ rfl w.heap.size rfl 27 _ _ _ hk1 Tryd.underlying27 rfl (hdSize _) ?_) | (go_at_call 23; refine (hC.out _).mono ?_; rintro e w2 ⟨rfl, hb2⟩))
  go_ret
  exact ⟨rfl, hW1.out.later hb2⟩
set_option maxRecDepth 20000 in
theorem ChkCF (h : Hd) (n : Int) (w : World) (hT : Tab w) (hW : h.wf) (hE : checkE h n = 4) (n0 : ¬ n < 0) (n1 : ¬ 1500 < n) (p0 : ¬ h.pcp < 0) (p1 : ¬ 7 < h.pcp) (v0 : ¬ h.vid < 0) (v1 : ¬ 4095 ≤ h.vid) (t : h.tg = false) (q0 : ¬ 0 < h.pcp) (q1 : h.de = false) (q2 : ¬ 0 < h.vid) (o : ¬ h.s0 % 2 = 1) (l : h.llc = false) (y : ¬ h.typ < 1536) (z : ¬ 65535 < h.typ) (u : h.typ = 33024) :
    Calls Tryd.prog 6 #[.agg h.row, .int .i64 n] w fun e w' => e = .returned (.bool true) ∧ Below w.heap.size w w' := by
  have hs : 0 ≤ h.s0 ∧ h.s0 ≤ 255 := hW.bytes.2 h.s0 (by simp [Hd.src])
  have hC := hide (fun w => Check_any h n w hs)
  rw [hE] at hC
  have hF := hide (fun w hT => frames_any w hT)
  have HT := hide hT
  have hk := heap_alloc_new w (.cells h.row 27)
  clear hT hW hE
  go_enter Tryd.func6, Tryd.ntmps6
  go_wp2_with fail
  refine (hF.out _ (HT.out.later (below1 _ _))).mono ?_
  rintro e w1 ⟨rfl, hb1⟩
  have hk1 := heap_kept hb1 hk
  have hW1 := hide ((below1 w _).later hb1)
  have c6 : w1.cell? ⟨w.heap.size, 6, none⟩ = some (.int .u8 h.s0) := (cell_of_row _ _ _ _ _ _ hk1).trans rfl
  have c12 : w1.cell? ⟨w.heap.size, 12, none⟩ = some (.bool h.tg) := (cell_of_row _ _ _ _ _ _ hk1).trans rfl
  have c13 : w1.cell? ⟨w.heap.size, 13, none⟩ = some (.int .i64 h.pcp) := (cell_of_row _ _ _ _ _ _ hk1).trans rfl
  have c14 : w1.cell? ⟨w.heap.size, 14, none⟩ = some (.bool h.de) := (cell_of_row _ _ _ _ _ _ hk1).trans rfl
  have c15 : w1.cell? ⟨w.heap.size, 15, none⟩ = some (.int .i64 h.vid) := (cell_of_row _ _ _ _ _ _ hk1).trans rfl
  have c16 : w1.cell? ⟨w.heap.size, 16, none⟩ = some (.int .i64 h.typ) := (cell_of_row _ _ _ _ _ _ hk1).trans rfl
  have c17 : w1.cell? ⟨w.heap.size, 17, none⟩ = some (.bool h.llc) := (cell_of_row _ _ _ _ _ _ hk1).trans rfl
  clear hb1 hk hF
  rw [t] at c12
  rw [q1] at c14
  rw [l] at c17
  go_wp2_with (first | (with_reducible change wpList _ _ _ _ _ _; refine wpList_load_row rfl 27 _ rfl w.heap.size rfl 27 _ _ _ hk1 Tryd.underlying27 rfl (hdSize _) ?_) | (go_at_call 23; refine (hC.out _).mono ?_; rintro e w2 ⟨rfl, hb2⟩))
  go_ret
  exact ⟨rfl, hW1.out.later hb2⟩
set_option maxRecDepth 20000 in
theorem ChkDF (h : Hd) (n : Int) (w : World) (hT : Tab w) (hW : h.wf) (hE : checkE h n = 0) (n0 : ¬ n < 0) (n1 : ¬ 1500 < n) (p0 : ¬ h.pcp < 0) (p1 : ¬ 7 < h.pcp) (v0 : ¬ h.vid < 0) (v1 : ¬ 4095 ≤ h.vid) (t : h.tg = false) (q0 : ¬ 0 < h.pcp) (q1 : h.de = false) (q2 : ¬ 0 < h.vid) (o : ¬ h.s0 % 2 = 1) (l : h.llc = false) (y : ¬ h.typ < 1536) (z : ¬ 65535 < h.typ) (u : ¬ h.typ = 33024) :
    Calls Tryd.prog 6 #[.agg h.row, .int .i64 n] w fun e w' => e = .returned (.bool true) ∧ Below w.heap.size w w' := by
  have hs : 0 ≤ h.s0 ∧ h.s0 ≤ 255 := hW.bytes.2 h.s0 (by simp [Hd.src])
  have hC := hide (fun w => Check_any h n w hs)
  rw [hE] at hC
  have hF := hide (fun w hT => frames_any w hT)
  have HT := hide hT
  have hk := heap_alloc_new w (.cells h.row 27)
  clear hT hW hE
  go_enter Tryd.func6, Tryd.ntmps6
  go_wp2_with fail
  refine (hF.out _ (HT.out.later (below1 _ _))).mono ?_
  rintro e w1 ⟨rfl, hb1⟩
  have hk1 := heap_kept hb1 hk
  have hW1 := hide ((below1 w _).later hb1)
  have c6 : w1.cell? ⟨w.heap.size, 6, none⟩ = some (.int .u8 h.s0) := (cell_of_row _ _ _ _ _ _ hk1).trans rfl
  have c12 : w1.cell? ⟨w.heap.size, 12, none⟩ = some (.bool h.tg) := (cell_of_row _ _ _ _ _ _ hk1).trans rfl
  have c13 : w1.cell? ⟨w.heap.size, 13, none⟩ = some (.int .i64 h.pcp) := (cell_of_row _ _ _ _ _ _ hk1).trans rfl
  have c14 : w1.cell? ⟨w.heap.size, 14, none⟩ = some (.bool h.de) := (cell_of_row _ _ _ _ _ _ hk1).trans rfl
  have c15 : w1.cell? ⟨w.heap.size, 15, none⟩ = some (.int .i64 h.vid) := (cell_of_row _ _ _ _ _ _ hk1).trans rfl
  have c16 : w1.cell? ⟨w.heap.size, 16, none⟩ = some (.int .i64 h.typ) := (cell_of_row _ _ _ _ _ _ hk1).trans rfl
  have c17 : w1.cell? ⟨w.heap.size, 17, none⟩ = some (.bool h.llc) := (cell_of_row _ _ _ _ _ _ hk1).trans rfl
  clear hb1 hk hF
  rw [t] at c12
  rw [q1] at c14
  rw [l] at c17
  go_wp2_with (first | (with_reducible change wpList _ _ _ _ _ _; refine wpList_load_row rfl 27 _ rfl w.heap.size rfl 27 _ _ _ hk1 Tryd.underlying27 rfl (hdSize _) ?_) | (go_at_call 23; refine (hC.out _).mono ?_; rintro e w2 ⟨rfl, hb2⟩))
  go_ret
  exact ⟨rfl, hW1.out.later hb2⟩
set_option maxRecDepth 20000 in
theorem ChkOT (h : Hd) (n : Int) (w : World) (hT : Tab w) (hW : h.wf) (hE : checkE h n = 4) (n0 : ¬ n < 0) (n1 : ¬ 1500 < n) (p0 : ¬ h.pcp < 0) (p1 : ¬ 7 < h.pcp) (v0 : ¬ h.vid < 0) (v1 : ¬ 4095 ≤ h.vid) (t : h.tg = true) (o : h.s0 % 2 = 1) :
    Calls Tryd.prog 6 #[.agg h.row, .int .i64 n] w fun e w' => e = .returned (.bool true) ∧ Below w.heap.size w w' := by
  have hs : 0 ≤ h.s0 ∧ h.s0 ≤ 255 := hW.bytes.2 h.s0 (by simp [Hd.src])
  have hC := hide (fun w => Check_any h n w hs)
  rw [hE] at hC
  have hF := hide (fun w hT => frames_any w hT)
  have HT := hide hT
  have hk := heap_alloc_new w (.cells h.row 27)
  clear hT hW hE
  go_enter Tryd.func6, Tryd.ntmps6
  go_wp2_with fail
  refine (hF.out _ (HT.out.later (below1 _ _))).mono ?_
  rintro e w1 ⟨rfl, hb1⟩
  have hk1 := heap_kept hb1 hk
  have hW1 := hide ((below1 w _).later hb1)
  have c6 : w1.cell? ⟨w.heap.size, 6, none⟩ = some (.int .u8 h.s0) := (cell_of_row _ _ _ _ _ _ hk1).trans rfl
  have c12 : w1.cell? ⟨w.heap.size, 12, none⟩ = some (.bool h.tg) := (cell_of_row _ _ _ _ _ _ hk1).trans rfl
  have c13 : w1.cell? ⟨w.heap.size, 13, none⟩ = some (.int .i64 h.pcp) := (cell_of_row _ _ _ _ _ _ hk1).trans rfl
  have c14 : w1.cell? ⟨w.heap.size, 14, none⟩ = some (.bool h.de) := (cell_of_row _ _ _ _ _ _ hk1).trans rfl
  have c15 : w1.cell? ⟨w.heap.size, 15, none⟩ = some (.int .i64 h.vid) := (cell_of_row _ _ _ _ _ _ hk1).trans rfl
  have c16 : w1.cell? ⟨w.heap.size, 16, none⟩ = some (.int .i64 h.typ) := (cell_of_row _ _ _ _ _ _ hk1).trans rfl
  have c17 : w1.cell? ⟨w.heap.size, 17, none⟩ = some (.bool h.llc) := (cell_of_row _ _ _ _ _ _ hk1).trans rfl
  clear hb1 hk hF
  rw [t] at c12
  go_wp2_with (first | (with_reducible change wpList _ _ _ _ _ _; refine wpList_load_row rfl 27 _ rfl w.heap.size rfl 27 _ _ _ hk1 Tryd.underlying27 rfl (hdSize _) ?_) | (go_at_call 23; refine (hC.out _).mono ?_; rintro e w2 ⟨rfl, hb2⟩))
  go_ret
  exact ⟨rfl, hW1.out.later hb2⟩
set_option maxRecDepth 20000 in
theorem ChkLT (h : Hd) (n : Int) (w : World) (hT : Tab w) (hW : h.wf) (hE : checkE h n = 4) (n0 : ¬ n < 0) (n1 : ¬ 1500 < n) (p0 : ¬ h.pcp < 0) (p1 : ¬ 7 < h.pcp) (v0 : ¬ h.vid < 0) (v1 : ¬ 4095 ≤ h.vid) (t : h.tg = true) (o : ¬ h.s0 % 2 = 1) (l : h.llc = true) (y : ¬ h.typ = n) :
    Calls Tryd.prog 6 #[.agg h.row, .int .i64 n] w fun e w' => e = .returned (.bool true) ∧ Below w.heap.size w w' := by
  have hs : 0 ≤ h.s0 ∧ h.s0 ≤ 255 := hW.bytes.2 h.s0 (by simp [Hd.src])
  have hC := hide (fun w => Check_any h n w hs)
  rw [hE] at hC
  have hF := hide (fun w hT => frames_any w hT)
  have HT := hide hT
  have hk := heap_alloc_new w (.cells h.row 27)
  clear hT hW hE
  go_enter Tryd.func6, Tryd.ntmps6
  go_wp2_with fail
  refine (hF.out _ (HT.out.later (below1 _ _))).mono ?_
  rintro e w1 ⟨rfl, hb1⟩
  have hk1 := heap_kept hb1 hk
  have hW1 := hide ((below1 w _).later hb1)
  have c6 : w1.cell? ⟨w.heap.size, 6, none⟩ = some (.int .u8 h.s0) := (cell_of_row _ _ _ _ _ _ hk1).trans rfl
  have c12 : w1.cell? ⟨w.heap.size, 12, none⟩ = some (.bool h.tg) := (cell_of_row _ _ _ _ _ _ hk1).trans rfl
  have c13 : w1.cell? ⟨w.heap.size, 13, none⟩ = some (.int .i64 h.pcp) := (cell_of_row _ _ _ _ _ _ hk1).trans rfl
  have c14 : w1.cell? ⟨w.heap.size, 14, none⟩ = some (.bool h.de) := (cell_of_row _ _ _ _ _ _ hk1).trans rfl
  have c15 : w1.cell? ⟨w.heap.size, 15, none⟩ = some (.int .i64 h.vid) := (cell_of_row _ _ _ _ _ _ hk1).trans rfl
  have c16 : w1.cell? ⟨w.heap.size, 16, none⟩ = some (.int .i64 h.typ) := (cell_of_row _ _ _ _ _ _ hk1).trans rfl
  have c17 : w1.cell? ⟨w.heap.size, 17, none⟩ = some (.bool h.llc) := (cell_of_row _ _ _ _ _ _ hk1).trans rfl
  clear hb1 hk hF
  rw [t] at c12
  rw [l] at c17
  go_wp2_with (first | (with_reducible change wpList _ _ _ _ _ _; refine wpList_load_row rfl 27 _ rfl w.heap.size rfl 27 _ _ _ hk1 Tryd.underlying27 rfl (hdSize _) ?_) | (go_at_call 23; refine (hC.out _).mono ?_; rintro e w2 ⟨rfl, hb2⟩))
  go_ret
  exact ⟨rfl, hW1.out.later hb2⟩
set_option maxRecDepth 20000 in
theorem ChkMT (h : Hd) (n : Int) (w : World) (hT : Tab w) (hW : h.wf) (hE : checkE h n = 0) (n0 : ¬ n < 0) (n1 : ¬ 1500 < n) (p0 : ¬ h.pcp < 0) (p1 : ¬ 7 < h.pcp) (v0 : ¬ h.vid < 0) (v1 : ¬ 4095 ≤ h.vid) (t : h.tg = true) (o : ¬ h.s0 % 2 = 1) (l : h.llc = true) (y : h.typ = n) :
    Calls Tryd.prog 6 #[.agg h.row, .int .i64 n] w fun e w' => e = .returned (.bool true) ∧ Below w.heap.size w w' := by
  have hs : 0 ≤ h.s0 ∧ h.s0 ≤ 255 := hW.bytes.2 h.s0 (by simp [Hd.src])
  have hC := hide (fun w => Check_any h n w hs)
  rw [hE] at hC
  have hF := hide (fun w hT => frames_any w hT)
  have HT := hide hT
  have hk := heap_alloc_new w (.cells h.row 27)
  clear hT hW hE
  go_enter Tryd.func6, Tryd.ntmps6
  go_wp2_with fail
  refine (hF.out _ (HT.out.later (below1 _ _))).mono ?_
  rintro e w1 ⟨rfl, hb1⟩
  have hk1 := heap_kept hb1 hk
  have hW1 := hide ((below1 w _).later hb1)
  have c6 : w1.cell? ⟨w.heap.size, 6, none⟩ = some (.int .u8 h.s0) := (cell_of_row _ _ _ _ _ _ hk1).trans rfl
  have c12 : w1.cell? ⟨w.heap.size, 12, none⟩ = some (.bool h.tg) := (cell_of_row _ _ _ _ _ _ hk1).trans rfl
  have c13 : w1.cell? ⟨w.heap.size, 13, none⟩ = some (.int .i64 h.pcp) := (cell_of_row _ _ _ _ _ _ hk1).trans rfl
  have c14 : w1.cell? ⟨w.heap.size, 14, none⟩ = some (.bool h.de) := (cell_of_row _ _ _ _ _ _ hk1).trans rfl
  have c15 : w1.cell? ⟨w.heap.size, 15, none⟩ = some (.int .i64 h.vid) := (cell_of_row _ _ _ _ _ _ hk1).trans rfl
  have c16 : w1.cell? ⟨w.heap.size, 16, none⟩ = some (.int .i64 h.typ) := (cell_of_row _ _ _ _ _ _ hk1).trans rfl
  have c17 : w1.cell? ⟨w.heap.size, 17, none⟩ = some (.bool h.llc) := (cell_of_row _ _ _ _ _ _ hk1).trans rfl
  clear hb1 hk hF
  rw [t] at c12
  rw [l] at c17
  go_wp2_with (first | (with_reducible change wpList _ _ _ _ _ _; refine wpList_load_row rfl 27 _ rfl w.heap.size rfl 27 _ _ _ hk1 Tryd.underlying27 rfl (hdSize _) ?_) | (go_at_call 23; refine (hC.out _).mono ?_; rintro e w2 ⟨rfl, hb2⟩))
  go_ret
  exact ⟨rfl, hW1.out.later hb2⟩
set_option maxRecDepth 20000 in
theorem ChkAT (h : Hd) (n : Int) (w : World) (hT : Tab w) (hW : h.wf) (hE : checkE h n = 4) (n0 : ¬ n < 0) (n1 : ¬ 1500 < n) (p0 : ¬ h.pcp < 0) (p1 : ¬ 7 < h.pcp) (v0 : ¬ h.vid < 0) (v1 : ¬ 4095 ≤ h.vid) (t : h.tg = true) (o : ¬ h.s0 % 2 = 1) (l : h.llc = false) (y : h.typ < 1536) :
    Calls Tryd.prog 6 #[.agg h.row, .int .i64 n] w fun e w' => e = .returned (.bool true) ∧ Below w.heap.size w w' := by
  have hs : 0 ≤ h.s0 ∧ h.s0 ≤ 255 := hW.bytes.2 h.s0 (by simp [Hd.src])
  have hC := hide (fun w => Check_any h n w hs)
  rw [hE] at hC
  have hF := hide (fun w hT => frames_any w hT)
  have HT := hide hT
  have hk := heap_alloc_new w (.cells h.row 27)
  clear hT hW hE
  go_enter Tryd.func6, Tryd.ntmps6
  go_wp2_with fail
  refine (hF.out _ (HT.out.later (below1 _ _))).mono ?_
  rintro e w1 ⟨rfl, hb1⟩
  have hk1 := heap_kept hb1 hk
  have hW1 := hide ((below1 w _).later hb1)
  have c6 : w1.cell? ⟨w.heap.size, 6, none⟩ = some (.int .u8 h.s0) := (cell_of_row _ _ _ _ _ _ hk1).trans rfl
  have c12 : w1.cell? ⟨w.heap.size, 12, none⟩ = some (.bool h.tg) := (cell_of_row _ _ _ _ _ _ hk1).trans rfl
  have c13 : w1.cell? ⟨w.heap.size, 13, none⟩ = some (.int .i64 h.pcp) := (cell_of_row _ _ _ _ _ _ hk1).trans rfl
  have c14 : w1.cell? ⟨w.heap.size, 14, none⟩ = some (.bool h.de) := (cell_of_row _ _ _ _ _ _ hk1).trans rfl
  have c15 : w1.cell? ⟨w.heap.size, 15, none⟩ = some (.int .i64 h.vid) := (cell_of_row _ _ _ _ _ _ hk1).trans rfl
  have c16 : w1.cell? ⟨w.heap.size, 16, none⟩ = some (.int .i64 h.typ) := (cell_of_row _ _ _ _ _ _ hk1).trans rfl
  have c17 : w1.cell? ⟨w.heap.size, 17, none⟩ = some (.bool h.llc) := (cell_of_row _ _ _ _ _ _ hk1).trans rfl
  clear hb1 hk hF
  rw [t] at c12
  rw [l] at c17
  go_wp2_with (first | (with_reducible change wpList _ _ _ _ _ _; refine wpList_load_row rfl 27 _ rfl w.heap.size rfl 27 _ _ _ hk1 Tryd.underlying27 rfl (hdSize _) ?_) | (go_at_call 23; refine (hC.out _).mono ?_; rintro e w2 ⟨rfl, hb2⟩))
  go_ret
  exact ⟨rfl, hW1.out.later hb2⟩
set_option maxRecDepth 20000 in
theorem ChkBT (h : Hd) (n : Int) (w : World) (hT : Tab w) (hW : h.wf) (hE : checkE h n = 4) (n0 : ¬ n < 0) (n1 : ¬ 1500 < n) (p0 : ¬ h.pcp < 0) (p1 : ¬ 7 < h.pcp) (v0 : ¬ h.vid < 0) (v1 : ¬ 4095 ≤ h.vid) (t : h.tg = true) (o : ¬ h.s0 % 2 = 1) (l : h.llc = false) (y : ¬ h.typ < 1536) (z : 65535 < h.typ) :
    Calls Tryd.prog 6 #[.agg h.row, .int .i64 n] w fun e w' => e = .returned (.bool true) ∧ Below w.heap.size w w' := by
  have hs : 0 ≤ h.s0 ∧ h.s0 ≤ 255 := hW.bytes.2 h.s0 (by simp [Hd.src])
  have hC := hide (fun w => Check_any h n w hs)
  rw [hE] at hC
  have hF := hide (fun w hT => frames_any w hT)
  have HT := hide hT
  have hk := heap_alloc_new w (.cells h.row 27)
  clear hT hW hE
  go_enter Tryd.func6, Tryd.ntmps6
  go_wp2_with fail
  refine (hF.out _ (HT.out.later (below1 _ _))).mono ?_
  rintro e w1 ⟨rfl, hb1⟩
  have hk1 := heap_kept hb1 hk
  have hW1 := hide ((below1 w _).later hb1)
  have c6 : w1.cell? ⟨w.heap.size, 6, none⟩ = some (.int .u8 h.s0) := (cell_of_row _ _ _ _ _ _ hk1).trans rfl
  have c12 : w1.cell? ⟨w.heap.size, 12, none⟩ = some (.bool h.tg) := (cell_of_row _ _ _ _ _ _ hk1).trans rfl
  have c13 : w1.cell? ⟨w.heap.size, 13, none⟩ = some (.int .i64 h.pcp) := (cell_of_row _ _ _ _ _ _ hk1).trans rfl
  have c14 : w1.cell? ⟨w.heap.size, 14, none⟩ = some (.bool h.de) := (cell_of_row _ _ _ _ _ _ hk1).trans rfl
  have c15 : w1.cell? ⟨w.heap.size, 15, none⟩ = some (.int .i64 h.vid) := (cell_of_row _ _ _ _ _ _ hk1).trans rfl
  have c16 : w1.cell? ⟨w.heap.size, 16, none⟩ = some (.int .i64 h.typ) := (cell_of_row _ _ _ _ _ _ hk1).trans rfl
  have c17 : w1.cell? ⟨w.heap.size, 17, none⟩ = some (.bool h.llc) := (cell_of_row _ _ _ _ _ _ hk1).trans rfl
  clear hb1 hk hF
  rw [t] at c12
  rw [l] at c17
  go_wp2_with (first | (with_reducible change wpList _ _ _ _ _ _; refine wpList_load_row rfl 27 _ rfl w.heap.size rfl 27 _ _ _ hk1 Tryd.underlying27 rfl (hdSize _) ?_) | (go_at_call 23; refine (hC.out _).mono ?_; rintro e w2 ⟨rfl, hb2⟩))
  go_ret
  exact ⟨rfl, hW1.out.later hb2⟩
set_option maxRecDepth 20000 in
theorem ChkCT (h : Hd) (n : Int) (w : World) (hT : Tab w) (hW : h.wf) (hE : checkE h n = 0) (n0 : ¬ n < 0) (n1 : ¬ 1500 < n) (p0 : ¬ h.pcp < 0) (p1 : ¬ 7 < h.pcp) (v0 : ¬ h.vid < 0) (v1 : ¬ 4095 ≤ h.vid) (t : h.tg = true) (o : ¬ h.s0 % 2 = 1) (l : h.llc = false) (y : ¬ h.typ < 1536) (z : ¬ 65535 < h.typ) (u : h.typ = 33024) :
    Calls Tryd.prog 6 #[.agg h.row, .int .i64 n] w fun e w' => e = .returned (.bool true) ∧ Below w.heap.size w w' := by
  have hs : 0 ≤ h.s0 ∧ h.s0 ≤ 255 := hW.bytes.2 h.s0 (by simp [Hd.src])
  have hC := hide (fun w => Check_any h n w hs)
  rw [hE] at hC
  have hF := hide (fun w hT => frames_any w hT)
  have HT := hide hT
  have hk := heap_alloc_new w (.cells h.row 27)
  clear hT hW hE
  go_enter Tryd.func6, Tryd.ntmps6
  go_wp2_with fail
  refine (hF.out _ (HT.out.later (below1 _ _))).mono ?_
  rintro e w1 ⟨rfl, hb1⟩
  have hk1 := heap_kept hb1 hk
  have hW1 := hide ((below1 w _).later hb1)
  have c6 : w1.cell? ⟨w.heap.size, 6, none⟩ = some (.int .u8 h.s0) := (cell_of_row _ _ _ _ _ _ hk1).trans rfl
  have c12 : w1.cell? ⟨w.heap.size, 12, none⟩ = some (.bool h.tg) := (cell_of_row _ _ _ _ _ _ hk1).trans rfl
  have c13 : w1.cell? ⟨w.heap.size, 13, none⟩ = some (.int .i64 h.pcp) := (cell_of_row _ _ _ _ _ _ hk1).trans rfl
  have c14 : w1.cell? ⟨w.heap.size, 14, none⟩ = some (.bool h.de) := (cell_of_row _ _ _ _ _ _ hk1).trans rfl
  have c15 : w1.cell? ⟨w.heap.size, 15, none⟩ = some (.int .i64 h.vid) := (cell_of_row _ _ _ _ _ _ hk1).trans rfl
  have c16 : w1.cell? ⟨w.heap.size, 16, none⟩ = some (.int .i64 h.typ) := (cell_of_row _ _ _ _ _ _ hk1).trans rfl
  have c17 : w1.cell? ⟨w.heap.size, 17, none⟩ = some (.bool h.llc) := (cell_of_row _ _ _ _ _ _ hk1).trans rfl
  clear hb1 hk hF
  rw [t] at c12
  rw [l] at c17
  go_wp2_with (first | (with_reducible change wpList _ _ _ _ _ _; refine wpList_load_row rfl 27 _ rfl w.heap.size rfl 27 _ _ _ hk1 Tryd.underlying27 rfl (hdSize _) ?_) | (go_at_call 23; refine (hC.out _).mono ?_; rintro e w2 ⟨rfl, hb2⟩))
  go_ret
  exact ⟨rfl, hW1.out.later hb2⟩
set_option maxRecDepth 20000 in
theorem ChkDT (h : Hd) (n : Int) (w : World) (hT : Tab w) (hW : h.wf) (hE : checkE h n = 0) (n0 : ¬ n < 0) (n1 : ¬ 1500 < n) (p0 : ¬ h.pcp < 0) (p1 : ¬ 7 < h.pcp) (v0 : ¬ h.vid < 0) (v1 : ¬ 4095 ≤ h.vid) (t : h.tg = true) (o : ¬ h.s0 % 2 = 1) (l : h.llc = false) (y : ¬ h.typ < 1536) (z : ¬ 65535 < h.typ) (u : ¬ h.typ = 33024) :
    Calls Tryd.prog 6 #[.agg h.row, .int .i64 n] w fun e w' => e = .returned (.bool true) ∧ Below w.heap.size w w' := by
  have hs : 0 ≤ h.s0 ∧ h.s0 ≤ 255 := hW.bytes.2 h.s0 (by simp [Hd.src])
  have hC := hide (fun w => Check_any h n w hs)
  rw [hE] at hC
  have hF := hide (fun w hT => frames_any w hT)
  have HT := hide hT
  have hk := heap_alloc_new w (.cells h.row 27)
  clear hT hW hE
  go_enter Tryd.func6, Tryd.ntmps6
  go_wp2_with fail
  refine (hF.out _ (HT.out.later (below1 _ _))).mono ?_
  rintro e w1 ⟨rfl, hb1⟩
  have hk1 := heap_kept hb1 hk
  have hW1 := hide ((below1 w _).later hb1)
  have c6 : w1.cell? ⟨w.heap.size, 6, none⟩ = some (.int .u8 h.s0) := (cell_of_row _ _ _ _ _ _ hk1).trans rfl
  have c12 : w1.cell? ⟨w.heap.size, 12, none⟩ = some (.bool h.tg) := (cell_of_row _ _ _ _ _ _ hk1).trans rfl
  have c13 : w1.cell? ⟨w.heap.size, 13, none⟩ = some (.int .i64 h.pcp) := (cell_of_row _ _ _ _ _ _ hk1).trans rfl
  have c14 : w1.cell? ⟨w.heap.size, 14, none⟩ = some (.bool h.de) := (cell_of_row _ _ _ _ _ _ hk1).trans rfl
  have c15 : w1.cell? ⟨w.heap.size, 15, none⟩ = some (.int .i64 h.vid) := (cell_of_row _ _ _ _ _ _ hk1).trans rfl
  have c16 : w1.cell? ⟨w.heap.size, 16, none⟩ = some (.int .i64 h.typ) := (cell_of_row _ _ _ _ _ _ hk1).trans rfl
  have c17 : w1.cell? ⟨w.heap.size, 17, none⟩ = some (.bool h.llc) := (cell_of_row _ _ _ _ _ _ hk1).trans rfl
  clear hb1 hk hF
  rw [t] at c12
  rw [l] at c17
  go_wp2_with (first | (with_reducible change wpList _ _ _ _ _ _; refine wpList_load_row rfl 27 _ rfl w.heap.size rfl 27 _ _ _ hk1 Tryd.underlying27 rfl (hdSize _) ?_) | (go_at_call 23; refine (hC.out _).mono ?_; rintro e w2 ⟨rfl, hb2⟩))
  go_ret
  exact ⟨rfl, hW1.out.later hb2⟩

theorem cE3 {h : Hd} {n : Int} (a : n < 0 ∨ 1500 < n) : checkE h n = 3 := by rw [checkE, if_pos a]
theorem cE1 {h : Hd} {n : Int} (a : ¬ n < 0) (b : ¬ 1500 < n) (c : tagFitsB h = false) : checkE h n = 1 := by rw [checkE, if_neg (by omega), if_pos c]
theorem cE4 {h : Hd} {n : Int} (a : ¬ n < 0) (b : ¬ 1500 < n) (c : tagFitsB h = true) (d : h.s0 % 2 = 1 ∨ typeFitsB h n = false) : checkE h n = 4 := by rw [checkE, if_neg (by omega), if_neg (by simp [c]), if_pos d]
theorem cE0 {h : Hd} {n : Int} (a : ¬ n < 0) (b : ¬ 1500 < n) (c : tagFitsB h = true) (d : ¬ h.s0 % 2 = 1) (e : typeFitsB h n = true) : checkE h n = 0 := by rw [checkE, if_neg (by omega), if_neg (by simp [c]), if_neg (by simp [d, e])]
theorem tfT {h : Hd} (t : h.tg = true) (b : Bool) (hb : b = decide (0 ≤ h.pcp ∧ h.pcp ≤ 7 ∧ 0 ≤ h.vid ∧ h.vid ≤ 4094)) : tagFitsB h = b := by rw [tagFitsB, if_pos t, hb]
theorem tfF {h : Hd} (t : h.tg = false) (b : Bool) (hb : b = decide (h.pcp = 0 ∧ h.vid = 0 ∧ h.de = false)) : tagFitsB h = b := by rw [tagFitsB, if_neg (by simp [t]), hb]
theorem tf_no {h : Hd} (a : h.pcp < 0 ∨ 7 < h.pcp ∨ h.vid < 0 ∨ 4095 ≤ h.vid) : tagFitsB h = false := by
  cases t : h.tg
  · exact tfF t false (by symm; rw [decide_eq_false_iff_not]; omega)
  · exact tfT t false (by symm; rw [decide_eq_false_iff_not]; omega)
theorem yfL {h : Hd} {n : Int} (l : h.llc = true) (b : Bool) (hb : b = (h.typ == n)) : typeFitsB h n = b := by rw [typeFitsB, if_pos l, hb]
theorem yfT {h : Hd} {n : Int} (l : h.llc = false) (b : Bool) (hb : b = decide (1536 ≤ h.typ ∧ h.typ ≤ 65535 ∧ (h.tg = true ∨ h.typ ≠ 33024))) : typeFitsB h n = b := by rw [typeFitsB, if_neg (by simp [l]), hb]
theorem dF {p : Prop} [Decidable p] (h : ¬ p) : false = decide p := by simp [h]
theorem dT {p : Prop} [Decidable p] (h : p) : true = decide p := by simp [h]

theorem Checks_walk (h : Hd) (n : Int) (w : World) (hT : Tab w) (hW : h.wf) :
    Calls Tryd.prog 6 #[.agg h.row, .int .i64 n] w fun e w' => e = .returned (.bool true) ∧ Below w.heap.size w w' := by
  by_cases n0 : n < 0
  · exact Chk1 h n w hT hW (cE3 (.inl n0)) n0
  by_cases n1 : 1500 < n
  · exact Chk2 h n w hT hW (cE3 (.inr n1)) n0 n1
  by_cases p0 : h.pcp < 0
  · exact Chk3 h n w hT hW (cE1 n0 n1 (tf_no (by omega))) n0 n1 p0
  by_cases p1 : 7 < h.pcp
  · exact Chk4 h n w hT hW (cE1 n0 n1 (tf_no (by omega))) n0 n1 p0 p1
  by_cases v0 : h.vid < 0
  · exact Chk5 h n w hT hW (cE1 n0 n1 (tf_no (by omega))) n0 n1 p0 p1 v0
  by_cases v1 : 4095 ≤ h.vid
  · exact Chk6 h n w hT hW (cE1 n0 n1 (tf_no (by omega))) n0 n1 p0 p1 v0 v1
  cases t : h.tg
  · by_cases q0 : 0 < h.pcp
    · exact Chk7 h n w hT hW (cE1 n0 n1 (tfF t false (dF (by omega)))) n0 n1 p0 p1 v0 v1 t q0
    cases q1 : h.de
    · by_cases q2 : 0 < h.vid
      · exact Chk9 h n w hT hW (cE1 n0 n1 (tfF t false (dF (by omega)))) n0 n1 p0 p1 v0 v1 t q0 q1 q2
      have c : tagFitsB h = true := tfF t true (dT ⟨by omega, by omega, q1⟩)
      by_cases o : h.s0 % 2 = 1
      · exact ChkOF h n w hT hW (cE4 n0 n1 c (.inl o)) n0 n1 p0 p1 v0 v1 t q0 q1 q2 o
      cases l : h.llc
      · by_cases y : h.typ < 1536
        · exact ChkAF h n w hT hW (cE4 n0 n1 c (.inr (yfT l false (dF (by omega))))) n0 n1 p0 p1 v0 v1 t q0 q1 q2 o l y
        by_cases z : 65535 < h.typ
        · exact ChkBF h n w hT hW (cE4 n0 n1 c (.inr (yfT l false (dF (by omega))))) n0 n1 p0 p1 v0 v1 t q0 q1 q2 o l y z
        by_cases u : h.typ = 33024
        · exact ChkCF h n w hT hW (cE4 n0 n1 c (.inr (yfT l false (dF (by rw [t]; simp [u]))))) n0 n1 p0 p1 v0 v1 t q0 q1 q2 o l y z u
        · exact ChkDF h n w hT hW (cE0 n0 n1 c o (yfT l true (dT ⟨by omega, by omega, .inr u⟩))) n0 n1 p0 p1 v0 v1 t q0 q1 q2 o l y z u
      · by_cases y : h.typ = n
        · exact ChkMF h n w hT hW (cE0 n0 n1 c o (yfL l true (by simpa using y))) n0 n1 p0 p1 v0 v1 t q0 q1 q2 o l y
        · exact ChkLF h n w hT hW (cE4 n0 n1 c (.inr (yfL l false (by simpa using y)))) n0 n1 p0 p1 v0 v1 t q0 q1 q2 o l y
    · exact Chk8 h n w hT hW (cE1 n0 n1 (tfF t false (dF (by rw [q1]; simp)))) n0 n1 p0 p1 v0 v1 t q0 q1
  · have c : tagFitsB h = true := tfT t true (dT ⟨by omega, by omega, by omega, by omega⟩)
    by_cases o : h.s0 % 2 = 1
    · exact ChkOT h n w hT hW (cE4 n0 n1 c (.inl o)) n0 n1 p0 p1 v0 v1 t o
    cases l : h.llc
    · by_cases y : h.typ < 1536
      · exact ChkAT h n w hT hW (cE4 n0 n1 c (.inr (yfT l false (dF (by omega))))) n0 n1 p0 p1 v0 v1 t o l y
      by_cases z : 65535 < h.typ
      · exact ChkBT h n w hT hW (cE4 n0 n1 c (.inr (yfT l false (dF (by omega))))) n0 n1 p0 p1 v0 v1 t o l y z
      by_cases u : h.typ = 33024
      · exact ChkCT h n w hT hW (cE0 n0 n1 c o (yfT l true (dT ⟨by omega, by omega, .inl t⟩))) n0 n1 p0 p1 v0 v1 t o l y z u
      · exact ChkDT h n w hT hW (cE0 n0 n1 c o (yfT l true (dT ⟨by omega, by omega, .inl t⟩))) n0 n1 p0 p1 v0 v1 t o l y z u
    · by_cases y : h.typ = n
      · exact ChkMT h n w hT hW (cE0 n0 n1 c o (yfL l true (by simpa using y))) n0 n1 p0 p1 v0 v1 t o l y
      · exact ChkLT h n w hT hW (cE4 n0 n1 c (.inr (yfL l false (by simpa using y)))) n0 n1 p0 p1 v0 v1 t o l y
end Go.Proofs.YtiimppbfigikfaaDoor
