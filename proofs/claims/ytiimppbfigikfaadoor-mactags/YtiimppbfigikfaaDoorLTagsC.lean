/-
  The statement MacTags, walked. Condition: the table lies as the program's text lays it ('Tab').
-/
import Derived.Test.YtiimppbfigikfaaDoorMacG
import Derived.BigQuiet
namespace Go.Proofs.YtiimppbfigikfaaDoor
open Go.RowKit
set_option linter.unusedVariables false

set_option maxRecDepth 20000 in
set_option maxHeartbeats 2000000 in
theorem Tags_b5 (h : Hd) (v : Value) (l : List Int) (p q u : Int) (de : Bool) (w : World) (hT : Tab w) (hW : h.wf) (hv : Bs w v l) (hE : checkE h l.length = 0) (eq2 : (q == 1) = de) (d0 : decide (p < 0) = false) (d1 : decide (7 < p) = true) :
    Calls Tryd.prog 7 #[.agg h.row, v, .agg #[.int .i64 1, .int .i64 p, .int .i64 q, .int .i64 u]] w fun e w' => e = .returned (.bool true) ∧ Below w.heap.size w w' := by
  have hs : 0 ≤ h.s0 ∧ h.s0 ≤ 255 := hW.bytes.2 h.s0 (by simp [Hd.src])
  have hodd := check_odd hE
  have hF0 := fits_of_check hW.bytes hE
  have hlen : (l.length : Int) ≤ 1500 := hF0.2.2.1
  have hEt : checkE (withTag h true p de u) 0 = 1 := by
    rw [check_with hodd, if_pos (by simp at d1; simp [tagFitsB]; omega)]
  have hd6 : decide ((1600 : Int) < (l.length : Int)) = false := by simp; omega
  have hC1 := hide (carr_build hW.bytes hE)
  have hC := hide (fun w => Check_any h l.length w hs)
  rw [hE] at hC
  have hF := hide (fun w hT => frames_any w hT)
  have HT := hide hT
  have HE := hide hE
  have HV := hide hv
  have HW := hide hW
  have HF0 := hide hF0
  have HEt := hide hEt
  obtain ⟨_, va, vc, rfl, _⟩ := hv
  have hk := heap_kept (below1 (w.alloc (.cells h.row 27)) (.cells #[.int .i64 1, .int .i64 p, .int .i64 q, .int .i64 u] 42)) (heap_alloc_new w (.cells h.row 27))
  have hf := heap_alloc_new (w.alloc (.cells h.row 27)) (.cells #[.int .i64 1, .int .i64 p, .int .i64 q, .int .i64 u] 42)
  rw [World.size_alloc] at hf
  have hb0 := (below1 w (.cells h.row 27)).later (below1 (w.alloc (.cells h.row 27)) (.cells #[.int .i64 1, .int .i64 p, .int .i64 q, .int .i64 u] 42))
  clear hT hW hE hs hodd hF0 hEt 
  go_enter Tryd.func7, Tryd.ntmps7
  go_wp2_with fail
  refine (hF.out _ (HT.out.later hb0)).mono ?_
  rintro e w1 ⟨rfl, hb1⟩
  have hk1 := heap_kept hb1 hk
  have hf1 := heap_kept hb1 hf
  have hW1 := hide (hb0.later hb1)
  clear hb1 hb0 hk hf hF
  have HLEN := hide hlen
  clear hlen
  go_wp2_with (first | (with_reducible change wpList _ _ _ _ _ _; refine wpList_load_row_on rfl 27 _ rfl w.heap.size rfl 27 _ _ _ hk1 Tryd.underlying27 rfl (hdSize _) ?_))
  refine (hC.out _).mono ?_
  rintro e w2 ⟨rfl, hb2⟩
  have hk2 := heap_kept hb2 hk1
  have hf2 := heap_kept hb2 hf1
  have hW2 := hide (hW1.out.later hb2)
  clear hb2 hk1 hf1 hC hW1
  go_wp2_with (first | (with_reducible change wpList _ _ _ _ _ _; refine wpList_load_row rfl 27 _ rfl w.heap.size rfl 27 _ _ _ hk2 Tryd.underlying27 rfl (hdSize _) ?_))
  refine (Build_ok h _ HW.out.bytes (HT.out.later hW2.out) (HV.out.below hW2.out) HE.out).mono ?_
  rintro e w3 ⟨g3, n3, rfl, hn3, hg3, hB3, hb3⟩
  clear hn3 hg3
  have hk3 := heap_kept hb3 hk2
  have hf3 := heap_kept hb3 hf2
  have hW3 := hide (hW2.out.later hb3)
  have HB3 := hide hB3
  have q0 : w3.cell? ⟨w.heap.size + 1, 0, none⟩ = some (.int .i64 1) := (cell_of_row _ _ _ _ _ _ hf3).trans rfl
  have q1 : w3.cell? ⟨w.heap.size + 1, 1, none⟩ = some (.int .i64 p) := (cell_of_row _ _ _ _ _ _ hf3).trans rfl
  have q2 : w3.cell? ⟨w.heap.size + 1, 2, none⟩ = some (.int .i64 q) := (cell_of_row _ _ _ _ _ _ hf3).trans rfl
  have q3 : w3.cell? ⟨w.heap.size + 1, 3, none⟩ = some (.int .i64 u) := (cell_of_row _ _ _ _ _ _ hf3).trans rfl
  have Hk3 := hide hk3
  have Hf3 := hide hf3
  clear hb3 hk2 hf2 hW2 hB3 hk3 hf3
  go_wp2_with fail
  go_quiet (fail)
  have Hk4 : Hid ((w3.drewN nq).heap[w.heap.size]? = _) := Hk3
  have Hf4 : Hid ((w3.drewN nq).heap[w.heap.size + 1]? = _) := Hf3
  have HB4 := hide (HB3.out.below (below_drewN (Below.refl _ _) nq))
  have hW4 := hide (below_drewN hW3.out nq)
  have q1' : (w3.drewN nq).cell? ⟨w.heap.size + 1, 1, none⟩ = some (.int .i64 p) := q1
  have q3' : (w3.drewN nq).cell? ⟨w.heap.size + 1, 3, none⟩ = some (.int .i64 u) := q3
  clear q0 q1 q2 q3 Hk3 Hf3 HB3 hW3
  generalize hw4 : w3.drewN nq = w4 at *
  clear hw4
  go_wp2_with fail
  have hR5 := Retag_check HB4.out (HT.out.later hW4.out) hC1.out.good true p de u (by rw [hC1.out.hd, HEt.out]; decide)
  rw [hC1.out.hd, HEt.out] at hR5
  refine hR5.mono ?_
  rintro e w5 ⟨rfl, hb5⟩
  have hf5 := heap_kept hb5 Hf4.out
  have hk5 := heap_kept hb5 Hk4.out
  have q1 : w5.cell? ⟨w.heap.size + 1, 1, none⟩ = some (.int .i64 p) := (cell_of_row _ _ _ _ _ _ hf5).trans rfl
  have q3 : w5.cell? ⟨w.heap.size + 1, 3, none⟩ = some (.int .i64 u) := (cell_of_row _ _ _ _ _ _ hf5).trans rfl
  have c16 : w5.cell? ⟨w.heap.size, 16, none⟩ = some (.int .i64 h.typ) := (cell_of_row _ _ _ _ _ _ hk5).trans rfl
  have hW5 := hide (hW4.out.later hb5)
  clear hb5 hR5 hf5 hk5 Hk4 Hf4 HB4 hW4 q1' q3' hC1
  go_wp2
  go_ret
  exact ⟨rfl, hW5.out⟩
set_option maxRecDepth 20000 in
set_option maxHeartbeats 2000000 in
theorem Tags_b6 (h : Hd) (v : Value) (l : List Int) (p q u : Int) (de : Bool) (w : World) (hT : Tab w) (hW : h.wf) (hv : Bs w v l) (hE : checkE h l.length = 0) (eq2 : (q == 1) = de) (d0 : decide (p < 0) = false) (d1 : decide (7 < p) = false) (d2 : decide (u < 0) = true) :
    Calls Tryd.prog 7 #[.agg h.row, v, .agg #[.int .i64 1, .int .i64 p, .int .i64 q, .int .i64 u]] w fun e w' => e = .returned (.bool true) ∧ Below w.heap.size w w' := by
  have hs : 0 ≤ h.s0 ∧ h.s0 ≤ 255 := hW.bytes.2 h.s0 (by simp [Hd.src])
  have hodd := check_odd hE
  have hF0 := fits_of_check hW.bytes hE
  have hlen : (l.length : Int) ≤ 1500 := hF0.2.2.1
  have hEt : checkE (withTag h true p de u) 0 = 1 := by
    rw [check_with hodd, if_pos (by simp at d2; simp [tagFitsB]; omega)]
  have hd6 : decide ((1600 : Int) < (l.length : Int)) = false := by simp; omega
  have hC1 := hide (carr_build hW.bytes hE)
  have hC := hide (fun w => Check_any h l.length w hs)
  rw [hE] at hC
  have hF := hide (fun w hT => frames_any w hT)
  have HT := hide hT
  have HE := hide hE
  have HV := hide hv
  have HW := hide hW
  have HF0 := hide hF0
  have HEt := hide hEt
  obtain ⟨_, va, vc, rfl, _⟩ := hv
  have hk := heap_kept (below1 (w.alloc (.cells h.row 27)) (.cells #[.int .i64 1, .int .i64 p, .int .i64 q, .int .i64 u] 42)) (heap_alloc_new w (.cells h.row 27))
  have hf := heap_alloc_new (w.alloc (.cells h.row 27)) (.cells #[.int .i64 1, .int .i64 p, .int .i64 q, .int .i64 u] 42)
  rw [World.size_alloc] at hf
  have hb0 := (below1 w (.cells h.row 27)).later (below1 (w.alloc (.cells h.row 27)) (.cells #[.int .i64 1, .int .i64 p, .int .i64 q, .int .i64 u] 42))
  clear hT hW hE hs hodd hF0 hEt 
  go_enter Tryd.func7, Tryd.ntmps7
  go_wp2_with fail
  refine (hF.out _ (HT.out.later hb0)).mono ?_
  rintro e w1 ⟨rfl, hb1⟩
  have hk1 := heap_kept hb1 hk
  have hf1 := heap_kept hb1 hf
  have hW1 := hide (hb0.later hb1)
  clear hb1 hb0 hk hf hF
  have HLEN := hide hlen
  clear hlen
  go_wp2_with (first | (with_reducible change wpList _ _ _ _ _ _; refine wpList_load_row_on rfl 27 _ rfl w.heap.size rfl 27 _ _ _ hk1 Tryd.underlying27 rfl (hdSize _) ?_))
  refine (hC.out _).mono ?_
  rintro e w2 ⟨rfl, hb2⟩
  have hk2 := heap_kept hb2 hk1
  have hf2 := heap_kept hb2 hf1
  have hW2 := hide (hW1.out.later hb2)
  clear hb2 hk1 hf1 hC hW1
  go_wp2_with (first | (with_reducible change wpList _ _ _ _ _ _; refine wpList_load_row rfl 27 _ rfl w.heap.size rfl 27 _ _ _ hk2 Tryd.underlying27 rfl (hdSize _) ?_))
  refine (Build_ok h _ HW.out.bytes (HT.out.later hW2.out) (HV.out.below hW2.out) HE.out).mono ?_
  rintro e w3 ⟨g3, n3, rfl, hn3, hg3, hB3, hb3⟩
  clear hn3 hg3
  have hk3 := heap_kept hb3 hk2
  have hf3 := heap_kept hb3 hf2
  have hW3 := hide (hW2.out.later hb3)
  have HB3 := hide hB3
  have q0 : w3.cell? ⟨w.heap.size + 1, 0, none⟩ = some (.int .i64 1) := (cell_of_row _ _ _ _ _ _ hf3).trans rfl
  have q1 : w3.cell? ⟨w.heap.size + 1, 1, none⟩ = some (.int .i64 p) := (cell_of_row _ _ _ _ _ _ hf3).trans rfl
  have q2 : w3.cell? ⟨w.heap.size + 1, 2, none⟩ = some (.int .i64 q) := (cell_of_row _ _ _ _ _ _ hf3).trans rfl
  have q3 : w3.cell? ⟨w.heap.size + 1, 3, none⟩ = some (.int .i64 u) := (cell_of_row _ _ _ _ _ _ hf3).trans rfl
  have Hk3 := hide hk3
  have Hf3 := hide hf3
  clear hb3 hk2 hf2 hW2 hB3 hk3 hf3
  go_wp2_with fail
  go_quiet (fail)
  have Hk4 : Hid ((w3.drewN nq).heap[w.heap.size]? = _) := Hk3
  have Hf4 : Hid ((w3.drewN nq).heap[w.heap.size + 1]? = _) := Hf3
  have HB4 := hide (HB3.out.below (below_drewN (Below.refl _ _) nq))
  have hW4 := hide (below_drewN hW3.out nq)
  have q1' : (w3.drewN nq).cell? ⟨w.heap.size + 1, 1, none⟩ = some (.int .i64 p) := q1
  have q3' : (w3.drewN nq).cell? ⟨w.heap.size + 1, 3, none⟩ = some (.int .i64 u) := q3
  clear q0 q1 q2 q3 Hk3 Hf3 HB3 hW3
  generalize hw4 : w3.drewN nq = w4 at *
  clear hw4
  go_wp2_with fail
  have hR5 := Retag_check HB4.out (HT.out.later hW4.out) hC1.out.good true p de u (by rw [hC1.out.hd, HEt.out]; decide)
  rw [hC1.out.hd, HEt.out] at hR5
  refine hR5.mono ?_
  rintro e w5 ⟨rfl, hb5⟩
  have hf5 := heap_kept hb5 Hf4.out
  have hk5 := heap_kept hb5 Hk4.out
  have q1 : w5.cell? ⟨w.heap.size + 1, 1, none⟩ = some (.int .i64 p) := (cell_of_row _ _ _ _ _ _ hf5).trans rfl
  have q3 : w5.cell? ⟨w.heap.size + 1, 3, none⟩ = some (.int .i64 u) := (cell_of_row _ _ _ _ _ _ hf5).trans rfl
  have c16 : w5.cell? ⟨w.heap.size, 16, none⟩ = some (.int .i64 h.typ) := (cell_of_row _ _ _ _ _ _ hk5).trans rfl
  have hW5 := hide (hW4.out.later hb5)
  clear hb5 hR5 hf5 hk5 Hk4 Hf4 HB4 hW4 q1' q3' hC1
  go_wp2
  go_ret
  exact ⟨rfl, hW5.out⟩
set_option maxRecDepth 20000 in
set_option maxHeartbeats 2000000 in
theorem Tags_b7 (h : Hd) (v : Value) (l : List Int) (p q u : Int) (de : Bool) (w : World) (hT : Tab w) (hW : h.wf) (hv : Bs w v l) (hE : checkE h l.length = 0) (eq2 : (q == 1) = de) (d0 : decide (p < 0) = false) (d1 : decide (7 < p) = false) (d2 : decide (u < 0) = false) (d3 : decide (4094 < u) = true) :
    Calls Tryd.prog 7 #[.agg h.row, v, .agg #[.int .i64 1, .int .i64 p, .int .i64 q, .int .i64 u]] w fun e w' => e = .returned (.bool true) ∧ Below w.heap.size w w' := by
  have hs : 0 ≤ h.s0 ∧ h.s0 ≤ 255 := hW.bytes.2 h.s0 (by simp [Hd.src])
  have hodd := check_odd hE
  have hF0 := fits_of_check hW.bytes hE
  have hlen : (l.length : Int) ≤ 1500 := hF0.2.2.1
  have hEt : checkE (withTag h true p de u) 0 = 1 := by
    rw [check_with hodd, if_pos (by simp at d3; simp [tagFitsB]; omega)]
  have hd6 : decide ((1600 : Int) < (l.length : Int)) = false := by simp; omega
  have hC1 := hide (carr_build hW.bytes hE)
  have hC := hide (fun w => Check_any h l.length w hs)
  rw [hE] at hC
  have hF := hide (fun w hT => frames_any w hT)
  have HT := hide hT
  have HE := hide hE
  have HV := hide hv
  have HW := hide hW
  have HF0 := hide hF0
  have HEt := hide hEt
  obtain ⟨_, va, vc, rfl, _⟩ := hv
  have hk := heap_kept (below1 (w.alloc (.cells h.row 27)) (.cells #[.int .i64 1, .int .i64 p, .int .i64 q, .int .i64 u] 42)) (heap_alloc_new w (.cells h.row 27))
  have hf := heap_alloc_new (w.alloc (.cells h.row 27)) (.cells #[.int .i64 1, .int .i64 p, .int .i64 q, .int .i64 u] 42)
  rw [World.size_alloc] at hf
  have hb0 := (below1 w (.cells h.row 27)).later (below1 (w.alloc (.cells h.row 27)) (.cells #[.int .i64 1, .int .i64 p, .int .i64 q, .int .i64 u] 42))
  clear hT hW hE hs hodd hF0 hEt 
  go_enter Tryd.func7, Tryd.ntmps7
  go_wp2_with fail
  refine (hF.out _ (HT.out.later hb0)).mono ?_
  rintro e w1 ⟨rfl, hb1⟩
  have hk1 := heap_kept hb1 hk
  have hf1 := heap_kept hb1 hf
  have hW1 := hide (hb0.later hb1)
  clear hb1 hb0 hk hf hF
  have HLEN := hide hlen
  clear hlen
  go_wp2_with (first | (with_reducible change wpList _ _ _ _ _ _; refine wpList_load_row_on rfl 27 _ rfl w.heap.size rfl 27 _ _ _ hk1 Tryd.underlying27 rfl (hdSize _) ?_))
  refine (hC.out _).mono ?_
  rintro e w2 ⟨rfl, hb2⟩
  have hk2 := heap_kept hb2 hk1
  have hf2 := heap_kept hb2 hf1
  have hW2 := hide (hW1.out.later hb2)
  clear hb2 hk1 hf1 hC hW1
  go_wp2_with (first | (with_reducible change wpList _ _ _ _ _ _; refine wpList_load_row rfl 27 _ rfl w.heap.size rfl 27 _ _ _ hk2 Tryd.underlying27 rfl (hdSize _) ?_))
  refine (Build_ok h _ HW.out.bytes (HT.out.later hW2.out) (HV.out.below hW2.out) HE.out).mono ?_
  rintro e w3 ⟨g3, n3, rfl, hn3, hg3, hB3, hb3⟩
  clear hn3 hg3
  have hk3 := heap_kept hb3 hk2
  have hf3 := heap_kept hb3 hf2
  have hW3 := hide (hW2.out.later hb3)
  have HB3 := hide hB3
  have q0 : w3.cell? ⟨w.heap.size + 1, 0, none⟩ = some (.int .i64 1) := (cell_of_row _ _ _ _ _ _ hf3).trans rfl
  have q1 : w3.cell? ⟨w.heap.size + 1, 1, none⟩ = some (.int .i64 p) := (cell_of_row _ _ _ _ _ _ hf3).trans rfl
  have q2 : w3.cell? ⟨w.heap.size + 1, 2, none⟩ = some (.int .i64 q) := (cell_of_row _ _ _ _ _ _ hf3).trans rfl
  have q3 : w3.cell? ⟨w.heap.size + 1, 3, none⟩ = some (.int .i64 u) := (cell_of_row _ _ _ _ _ _ hf3).trans rfl
  have Hk3 := hide hk3
  have Hf3 := hide hf3
  clear hb3 hk2 hf2 hW2 hB3 hk3 hf3
  go_wp2_with fail
  go_quiet (fail)
  have Hk4 : Hid ((w3.drewN nq).heap[w.heap.size]? = _) := Hk3
  have Hf4 : Hid ((w3.drewN nq).heap[w.heap.size + 1]? = _) := Hf3
  have HB4 := hide (HB3.out.below (below_drewN (Below.refl _ _) nq))
  have hW4 := hide (below_drewN hW3.out nq)
  have q1' : (w3.drewN nq).cell? ⟨w.heap.size + 1, 1, none⟩ = some (.int .i64 p) := q1
  have q3' : (w3.drewN nq).cell? ⟨w.heap.size + 1, 3, none⟩ = some (.int .i64 u) := q3
  clear q0 q1 q2 q3 Hk3 Hf3 HB3 hW3
  generalize hw4 : w3.drewN nq = w4 at *
  clear hw4
  go_wp2_with fail
  have hR5 := Retag_check HB4.out (HT.out.later hW4.out) hC1.out.good true p de u (by rw [hC1.out.hd, HEt.out]; decide)
  rw [hC1.out.hd, HEt.out] at hR5
  refine hR5.mono ?_
  rintro e w5 ⟨rfl, hb5⟩
  have hf5 := heap_kept hb5 Hf4.out
  have hk5 := heap_kept hb5 Hk4.out
  have q1 : w5.cell? ⟨w.heap.size + 1, 1, none⟩ = some (.int .i64 p) := (cell_of_row _ _ _ _ _ _ hf5).trans rfl
  have q3 : w5.cell? ⟨w.heap.size + 1, 3, none⟩ = some (.int .i64 u) := (cell_of_row _ _ _ _ _ _ hf5).trans rfl
  have c16 : w5.cell? ⟨w.heap.size, 16, none⟩ = some (.int .i64 h.typ) := (cell_of_row _ _ _ _ _ _ hk5).trans rfl
  have hW5 := hide (hW4.out.later hb5)
  clear hb5 hR5 hf5 hk5 Hk4 Hf4 HB4 hW4 q1' q3' hC1
  go_wp2
  go_ret
  exact ⟨rfl, hW5.out⟩
set_option maxRecDepth 20000 in
set_option maxHeartbeats 2000000 in
theorem Tags_ty (h : Hd) (v : Value) (l : List Int) (t q : Int) (w : World) (hT : Tab w) (hW : h.wf) (hv : Bs w v l) (hE : checkE h l.length = 0) (eq2 : (q == 1) = false) (e0 : (t == 1) = false) (eY : (h.typ == 33024) = true) :
    Calls Tryd.prog 7 #[.agg h.row, v, .agg #[.int .i64 t, .int .i64 0, .int .i64 q, .int .i64 0]] w fun e w' => e = .returned (.bool true) ∧ Below w.heap.size w w' := by
  have hs : 0 ≤ h.s0 ∧ h.s0 ≤ 255 := hW.bytes.2 h.s0 (by simp [Hd.src])
  have hodd := check_odd hE
  have hF0 := fits_of_check hW.bytes hE
  have hlen : (l.length : Int) ≤ 1500 := hF0.2.2.1
  have hEt : checkE (withTag h false 0 false 0) 0 = 0 := by
    rw [check_with hodd, if_neg (by simp [tagFitsB])]
  have hd6 : decide ((1600 : Int) < (l.length : Int)) = false := by simp; omega
  have hC1 := hide (carr_build hW.bytes hE)
  have hC := hide (fun w => Check_any h l.length w hs)
  rw [hE] at hC
  have hF := hide (fun w hT => frames_any w hT)
  have HT := hide hT
  have HE := hide hE
  have HV := hide hv
  have HW := hide hW
  have HF0 := hide hF0
  have HEt := hide hEt
  obtain ⟨_, va, vc, rfl, _⟩ := hv
  have hk := heap_kept (below1 (w.alloc (.cells h.row 27)) (.cells #[.int .i64 t, .int .i64 0, .int .i64 q, .int .i64 0] 42)) (heap_alloc_new w (.cells h.row 27))
  have hf := heap_alloc_new (w.alloc (.cells h.row 27)) (.cells #[.int .i64 t, .int .i64 0, .int .i64 q, .int .i64 0] 42)
  rw [World.size_alloc] at hf
  have hb0 := (below1 w (.cells h.row 27)).later (below1 (w.alloc (.cells h.row 27)) (.cells #[.int .i64 t, .int .i64 0, .int .i64 q, .int .i64 0] 42))
  clear hT hW hE hs hodd hF0 hEt 
  go_enter Tryd.func7, Tryd.ntmps7
  go_wp2_with fail
  refine (hF.out _ (HT.out.later hb0)).mono ?_
  rintro e w1 ⟨rfl, hb1⟩
  have hk1 := heap_kept hb1 hk
  have hf1 := heap_kept hb1 hf
  have hW1 := hide (hb0.later hb1)
  clear hb1 hb0 hk hf hF
  have HLEN := hide hlen
  clear hlen
  go_wp2_with (first | (with_reducible change wpList _ _ _ _ _ _; refine wpList_load_row_on rfl 27 _ rfl w.heap.size rfl 27 _ _ _ hk1 Tryd.underlying27 rfl (hdSize _) ?_))
  refine (hC.out _).mono ?_
  rintro e w2 ⟨rfl, hb2⟩
  have hk2 := heap_kept hb2 hk1
  have hf2 := heap_kept hb2 hf1
  have hW2 := hide (hW1.out.later hb2)
  clear hb2 hk1 hf1 hC hW1
  go_wp2_with (first | (with_reducible change wpList _ _ _ _ _ _; refine wpList_load_row rfl 27 _ rfl w.heap.size rfl 27 _ _ _ hk2 Tryd.underlying27 rfl (hdSize _) ?_))
  refine (Build_ok h _ HW.out.bytes (HT.out.later hW2.out) (HV.out.below hW2.out) HE.out).mono ?_
  rintro e w3 ⟨g3, n3, rfl, hn3, hg3, hB3, hb3⟩
  clear hn3 hg3
  have hk3 := heap_kept hb3 hk2
  have hf3 := heap_kept hb3 hf2
  have hW3 := hide (hW2.out.later hb3)
  have HB3 := hide hB3
  have q0 : w3.cell? ⟨w.heap.size + 1, 0, none⟩ = some (.int .i64 t) := (cell_of_row _ _ _ _ _ _ hf3).trans rfl
  have q1 : w3.cell? ⟨w.heap.size + 1, 1, none⟩ = some (.int .i64 0) := (cell_of_row _ _ _ _ _ _ hf3).trans rfl
  have q2 : w3.cell? ⟨w.heap.size + 1, 2, none⟩ = some (.int .i64 q) := (cell_of_row _ _ _ _ _ _ hf3).trans rfl
  have q3 : w3.cell? ⟨w.heap.size + 1, 3, none⟩ = some (.int .i64 0) := (cell_of_row _ _ _ _ _ _ hf3).trans rfl
  have Hk3 := hide hk3
  have Hf3 := hide hf3
  clear hb3 hk2 hf2 hW2 hB3 hk3 hf3
  go_wp2_with fail
  go_quiet (fail)
  have Hk4 : Hid ((w3.drewN nq).heap[w.heap.size]? = _) := Hk3
  have Hf4 : Hid ((w3.drewN nq).heap[w.heap.size + 1]? = _) := Hf3
  have HB4 := hide (HB3.out.below (below_drewN (Below.refl _ _) nq))
  have hW4 := hide (below_drewN hW3.out nq)
  have q1' : (w3.drewN nq).cell? ⟨w.heap.size + 1, 1, none⟩ = some (.int .i64 0) := q1
  have q3' : (w3.drewN nq).cell? ⟨w.heap.size + 1, 3, none⟩ = some (.int .i64 0) := q3
  clear q0 q1 q2 q3 Hk3 Hf3 HB3 hW3
  generalize hw4 : w3.drewN nq = w4 at *
  clear hw4
  go_wp2_with fail
  have hR5 := Retag_type HB4.out (HT.out.later hW4.out) hC1.out.good 0 false 0 (by rw [hC1.out.hd]; exact HEt.out) (by rw [hC1.out.hd]; simpa using eY)
  refine hR5.mono ?_
  rintro e w5 ⟨rfl, hb5⟩
  have hf5 := heap_kept hb5 Hf4.out
  have hk5 := heap_kept hb5 Hk4.out
  have q1 : w5.cell? ⟨w.heap.size + 1, 1, none⟩ = some (.int .i64 0) := (cell_of_row _ _ _ _ _ _ hf5).trans rfl
  have q3 : w5.cell? ⟨w.heap.size + 1, 3, none⟩ = some (.int .i64 0) := (cell_of_row _ _ _ _ _ _ hf5).trans rfl
  have c16 : w5.cell? ⟨w.heap.size, 16, none⟩ = some (.int .i64 h.typ) := (cell_of_row _ _ _ _ _ _ hk5).trans rfl
  have hW5 := hide (hW4.out.later hb5)
  clear hb5 hR5 hf5 hk5 Hk4 Hf4 HB4 hW4 q1' q3' hC1
  go_wp2
  go_ret
  exact ⟨rfl, hW5.out⟩
end Go.Proofs.YtiimppbfigikfaaDoor
