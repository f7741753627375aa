/-
  The statement WholeMessages, walked. Condition: the table lies as the program's text lays it ('Tab').
-/
import Derived.Test.YtiimppbfigikfaaDoorBq7
import Derived.Test.YtiimppbfigikfaaDoorFlatB
namespace Go.Proofs.YtiimppbfigikfaaDoor
open Go.RowKit
set_option linter.unusedVariables false

theorem Z0_byte : Byte [0, 0, 0, 0, 0, 0] := by intro z hz; simp at hz; omega
theorem textZ : bstr (textTo [0, 0, 0, 0, 0, 0] 6) = ⟨#[48, 48, 58, 48, 48, 58, 48, 48, 58, 48, 48, 58, 48, 48, 58, 48, 48]⟩ := by rfl
set_option maxRecDepth 20000 in
theorem WM_bad (b : Bp) (s0 s1 s2 s3 s4 s5 vid : Int) (w : World) (hT : Tab w) (hW : b.wf) (hs : Byte [s0, s1, s2, s3, s4, s5]) (hE : bcheckE b ≠ 0) :
    Calls Tryd.prog 17 #[.agg b.row, .agg (mac6 s0 s1 s2 s3 s4 s5), .int .i64 vid] w fun e w' => e = .returned (.bool true) ∧ Below w.heap.size w w' := by
  have hC := hide (fun w => BCheck_any b w hW)
  have hne : (bcheckE b != 0) = true := by simpa using hE
  generalize bcheckE b = E at *
  have hRy := hide (fun w => Reserved_any 1 128 194 0 0 0 w G0_byte)
  rw [show resB 1 128 194 0 0 0 = true by decide] at hRy
  have hTx := hide (fun w => Text_any 0 0 0 0 0 0 w Z0_byte)
  rw [textZ] at hTx
  have HT := hide hT
  have HWf := hide hW
  have HSb := hide hs
  have hk := heap_kept (below1 (w.alloc (.cells b.row 55)) (.cells (mac6 s0 s1 s2 s3 s4 s5) 25)) (heap_alloc_new w (.cells b.row 55))
  have hm := heap_alloc_new (w.alloc (.cells b.row 55)) (.cells (mac6 s0 s1 s2 s3 s4 s5) 25)
  rw [World.size_alloc] at hm
  have hb0 := (below1 w (.cells b.row 55)).later (below1 (w.alloc (.cells b.row 55)) (.cells (mac6 s0 s1 s2 s3 s4 s5) 25))
  clear hT hW hs hE
  go_enter Tryd.func17, Tryd.ntmps17
  go_wp2_with fail
  refine (BGroup_any _).mono ?_
  rintro e w1 ⟨rfl, hb1⟩
  have hk1 := heap_kept hb1 hk
  have hm1 := heap_kept hb1 hm
  have hW1 := hide (hb0.later hb1)
  clear hb1 hb0 hk hm
  go_wp2_with fail
  refine (hRy.out _).mono ?_
  rintro e w2 ⟨rfl, hb2⟩
  have hk2 := heap_kept hb2 hk1
  have hm2 := heap_kept hb2 hm1
  have hW2 := hide (hW1.out.later hb2)
  clear hb2 hk1 hm1 hW1
  go_wp2_with fail
  refine (hTx.out _).mono ?_
  rintro e w3 ⟨rfl, hb3⟩
  have hk3 := heap_kept hb3 hk2
  have hm3 := heap_kept hb3 hm2
  have hW3 := hide (hW2.out.later hb3)
  clear hb3 hk2 hm2 hW2
  clear hTx
  go_wp2_with (first | ((with_reducible change wpList _ _ _ _ _ _); refine wpList_load_row_on rfl 55 (.tmp 3) rfl w.heap.size rfl 55 _ _ _ hk3 Tryd.underlying55 rfl (bpSize _) ?_) | ((with_reducible change wpList _ _ _ _ _ _); refine wpList_load_row_on rfl 25 (.tmp 4) rfl (w.heap.size + 1) rfl 25 _ _ _ hm3 Tryd.underlying25 rfl macSize ?_))
  refine (hC.out _).mono ?_
  rintro e w4 ⟨rfl, hb4⟩
  have hk4 := heap_kept hb4 hk3
  have hm4 := heap_kept hb4 hm3
  have hW4 := hide (hW3.out.later hb4)
  clear hb4 hk3 hm3 hW3
  go_wp2
  go_ret
  exact ⟨rfl, hW4.out⟩
set_option maxRecDepth 20000 in
theorem WM_grp (b : Bp) (s0 s1 s2 s3 s4 s5 vid : Int) (w : World) (hT : Tab w) (hW : b.wf) (hs : Byte [s0, s1, s2, s3, s4, s5]) (hE : bcheckE b = 0) (ho : s0 % 2 = 1) :
    Calls Tryd.prog 17 #[.agg b.row, .agg (mac6 s0 s1 s2 s3 s4 s5), .int .i64 vid] w fun e w' => e = .returned (.bool true) ∧ Below w.heap.size w w' := by
  have hC := hide (fun w => BCheck_any b w hW)
  rw [hE] at hC
  have hGr := hide (fun w => Group_yes s0 s1 s2 s3 s4 s5 w (hs s0 (by simp)) ho)
  have hRy := hide (fun w => Reserved_any 1 128 194 0 0 0 w G0_byte)
  rw [show resB 1 128 194 0 0 0 = true by decide] at hRy
  have hTx := hide (fun w => Text_any 0 0 0 0 0 0 w Z0_byte)
  rw [textZ] at hTx
  have HT := hide hT
  have HWf := hide hW
  have HSb := hide hs
  have hk := heap_kept (below1 (w.alloc (.cells b.row 55)) (.cells (mac6 s0 s1 s2 s3 s4 s5) 25)) (heap_alloc_new w (.cells b.row 55))
  have hm := heap_alloc_new (w.alloc (.cells b.row 55)) (.cells (mac6 s0 s1 s2 s3 s4 s5) 25)
  rw [World.size_alloc] at hm
  have hb0 := (below1 w (.cells b.row 55)).later (below1 (w.alloc (.cells b.row 55)) (.cells (mac6 s0 s1 s2 s3 s4 s5) 25))
  clear hT hW hs hE ho
  go_enter Tryd.func17, Tryd.ntmps17
  go_wp2_with fail
  refine (BGroup_any _).mono ?_
  rintro e w1 ⟨rfl, hb1⟩
  have hk1 := heap_kept hb1 hk
  have hm1 := heap_kept hb1 hm
  have hW1 := hide (hb0.later hb1)
  clear hb1 hb0 hk hm
  go_wp2_with fail
  refine (hRy.out _).mono ?_
  rintro e w2 ⟨rfl, hb2⟩
  have hk2 := heap_kept hb2 hk1
  have hm2 := heap_kept hb2 hm1
  have hW2 := hide (hW1.out.later hb2)
  clear hb2 hk1 hm1 hW1
  go_wp2_with fail
  refine (hTx.out _).mono ?_
  rintro e w3 ⟨rfl, hb3⟩
  have hk3 := heap_kept hb3 hk2
  have hm3 := heap_kept hb3 hm2
  have hW3 := hide (hW2.out.later hb3)
  clear hb3 hk2 hm2 hW2
  clear hTx
  go_wp2_with (first | ((with_reducible change wpList _ _ _ _ _ _); refine wpList_load_row_on rfl 55 (.tmp 3) rfl w.heap.size rfl 55 _ _ _ hk3 Tryd.underlying55 rfl (bpSize _) ?_) | ((with_reducible change wpList _ _ _ _ _ _); refine wpList_load_row_on rfl 25 (.tmp 4) rfl (w.heap.size + 1) rfl 25 _ _ _ hm3 Tryd.underlying25 rfl macSize ?_))
  refine (hC.out _).mono ?_
  rintro e w4 ⟨rfl, hb4⟩
  have hk4 := heap_kept hb4 hk3
  have hm4 := heap_kept hb4 hm3
  have hW4 := hide (hW3.out.later hb4)
  clear hb4 hk3 hm3 hW3
  go_wp2_with (first | ((with_reducible change wpList _ _ _ _ _ _); refine wpList_load_row_on rfl 55 (.tmp 3) rfl w.heap.size rfl 55 _ _ _ hk4 Tryd.underlying55 rfl (bpSize _) ?_) | ((with_reducible change wpList _ _ _ _ _ _); refine wpList_load_row_on rfl 25 (.tmp 4) rfl (w.heap.size + 1) rfl 25 _ _ _ hm4 Tryd.underlying25 rfl macSize ?_))
  refine (hGr.out _).mono ?_
  rintro e w5 ⟨rfl, hb5⟩
  have hk5 := heap_kept hb5 hk4
  have hm5 := heap_kept hb5 hm4
  have hW5 := hide (hW4.out.later hb5)
  clear hb5 hk4 hm4 hW4
  go_wp2
  go_ret
  exact ⟨rfl, hW5.out⟩
set_option maxRecDepth 20000 in
theorem WM_v0 (b : Bp) (s0 s1 s2 s3 s4 s5 vid : Int) (w : World) (hT : Tab w) (hW : b.wf) (hs : Byte [s0, s1, s2, s3, s4, s5]) (hE : bcheckE b = 0) (ho : ¬ s0 % 2 = 1) (v0 : decide (vid < 0) = true) :
    Calls Tryd.prog 17 #[.agg b.row, .agg (mac6 s0 s1 s2 s3 s4 s5), .int .i64 vid] w fun e w' => e = .returned (.bool true) ∧ Below w.heap.size w w' := by
  have hC := hide (fun w => BCheck_any b w hW)
  rw [hE] at hC
  have hGr := hide (fun w => Group_no s0 s1 s2 s3 s4 s5 w (hs s0 (by simp)) ho)
  have hRy := hide (fun w => Reserved_any 1 128 194 0 0 0 w G0_byte)
  rw [show resB 1 128 194 0 0 0 = true by decide] at hRy
  have hTx := hide (fun w => Text_any 0 0 0 0 0 0 w Z0_byte)
  rw [textZ] at hTx
  have HT := hide hT
  have HWf := hide hW
  have HSb := hide hs
  have hk := heap_kept (below1 (w.alloc (.cells b.row 55)) (.cells (mac6 s0 s1 s2 s3 s4 s5) 25)) (heap_alloc_new w (.cells b.row 55))
  have hm := heap_alloc_new (w.alloc (.cells b.row 55)) (.cells (mac6 s0 s1 s2 s3 s4 s5) 25)
  rw [World.size_alloc] at hm
  have hb0 := (below1 w (.cells b.row 55)).later (below1 (w.alloc (.cells b.row 55)) (.cells (mac6 s0 s1 s2 s3 s4 s5) 25))
  clear hT hW hs hE ho
  go_enter Tryd.func17, Tryd.ntmps17
  go_wp2_with fail
  refine (BGroup_any _).mono ?_
  rintro e w1 ⟨rfl, hb1⟩
  have hk1 := heap_kept hb1 hk
  have hm1 := heap_kept hb1 hm
  have hW1 := hide (hb0.later hb1)
  clear hb1 hb0 hk hm
  go_wp2_with fail
  refine (hRy.out _).mono ?_
  rintro e w2 ⟨rfl, hb2⟩
  have hk2 := heap_kept hb2 hk1
  have hm2 := heap_kept hb2 hm1
  have hW2 := hide (hW1.out.later hb2)
  clear hb2 hk1 hm1 hW1
  go_wp2_with fail
  refine (hTx.out _).mono ?_
  rintro e w3 ⟨rfl, hb3⟩
  have hk3 := heap_kept hb3 hk2
  have hm3 := heap_kept hb3 hm2
  have hW3 := hide (hW2.out.later hb3)
  clear hb3 hk2 hm2 hW2
  clear hTx
  go_wp2_with (first | ((with_reducible change wpList _ _ _ _ _ _); refine wpList_load_row_on rfl 55 (.tmp 3) rfl w.heap.size rfl 55 _ _ _ hk3 Tryd.underlying55 rfl (bpSize _) ?_) | ((with_reducible change wpList _ _ _ _ _ _); refine wpList_load_row_on rfl 25 (.tmp 4) rfl (w.heap.size + 1) rfl 25 _ _ _ hm3 Tryd.underlying25 rfl macSize ?_))
  refine (hC.out _).mono ?_
  rintro e w4 ⟨rfl, hb4⟩
  have hk4 := heap_kept hb4 hk3
  have hm4 := heap_kept hb4 hm3
  have hW4 := hide (hW3.out.later hb4)
  clear hb4 hk3 hm3 hW3
  go_wp2_with (first | ((with_reducible change wpList _ _ _ _ _ _); refine wpList_load_row_on rfl 55 (.tmp 3) rfl w.heap.size rfl 55 _ _ _ hk4 Tryd.underlying55 rfl (bpSize _) ?_) | ((with_reducible change wpList _ _ _ _ _ _); refine wpList_load_row_on rfl 25 (.tmp 4) rfl (w.heap.size + 1) rfl 25 _ _ _ hm4 Tryd.underlying25 rfl macSize ?_))
  refine (hGr.out _).mono ?_
  rintro e w5 ⟨rfl, hb5⟩
  have hk5 := heap_kept hb5 hk4
  have hm5 := heap_kept hb5 hm4
  have hW5 := hide (hW4.out.later hb5)
  clear hb5 hk4 hm4 hW4
  go_wp2
  go_ret
  exact ⟨rfl, hW5.out⟩
set_option maxRecDepth 20000 in
theorem WM_v1 (b : Bp) (s0 s1 s2 s3 s4 s5 vid : Int) (w : World) (hT : Tab w) (hW : b.wf) (hs : Byte [s0, s1, s2, s3, s4, s5]) (hE : bcheckE b = 0) (ho : ¬ s0 % 2 = 1) (v0 : decide (vid < 0) = false) (v1 : decide (4094 < vid) = true) :
    Calls Tryd.prog 17 #[.agg b.row, .agg (mac6 s0 s1 s2 s3 s4 s5), .int .i64 vid] w fun e w' => e = .returned (.bool true) ∧ Below w.heap.size w w' := by
  have hC := hide (fun w => BCheck_any b w hW)
  rw [hE] at hC
  have hGr := hide (fun w => Group_no s0 s1 s2 s3 s4 s5 w (hs s0 (by simp)) ho)
  have hRy := hide (fun w => Reserved_any 1 128 194 0 0 0 w G0_byte)
  rw [show resB 1 128 194 0 0 0 = true by decide] at hRy
  have hTx := hide (fun w => Text_any 0 0 0 0 0 0 w Z0_byte)
  rw [textZ] at hTx
  have HT := hide hT
  have HWf := hide hW
  have HSb := hide hs
  have hk := heap_kept (below1 (w.alloc (.cells b.row 55)) (.cells (mac6 s0 s1 s2 s3 s4 s5) 25)) (heap_alloc_new w (.cells b.row 55))
  have hm := heap_alloc_new (w.alloc (.cells b.row 55)) (.cells (mac6 s0 s1 s2 s3 s4 s5) 25)
  rw [World.size_alloc] at hm
  have hb0 := (below1 w (.cells b.row 55)).later (below1 (w.alloc (.cells b.row 55)) (.cells (mac6 s0 s1 s2 s3 s4 s5) 25))
  clear hT hW hs hE ho
  go_enter Tryd.func17, Tryd.ntmps17
  go_wp2_with fail
  refine (BGroup_any _).mono ?_
  rintro e w1 ⟨rfl, hb1⟩
  have hk1 := heap_kept hb1 hk
  have hm1 := heap_kept hb1 hm
  have hW1 := hide (hb0.later hb1)
  clear hb1 hb0 hk hm
  go_wp2_with fail
  refine (hRy.out _).mono ?_
  rintro e w2 ⟨rfl, hb2⟩
  have hk2 := heap_kept hb2 hk1
  have hm2 := heap_kept hb2 hm1
  have hW2 := hide (hW1.out.later hb2)
  clear hb2 hk1 hm1 hW1
  go_wp2_with fail
  refine (hTx.out _).mono ?_
  rintro e w3 ⟨rfl, hb3⟩
  have hk3 := heap_kept hb3 hk2
  have hm3 := heap_kept hb3 hm2
  have hW3 := hide (hW2.out.later hb3)
  clear hb3 hk2 hm2 hW2
  clear hTx
  go_wp2_with (first | ((with_reducible change wpList _ _ _ _ _ _); refine wpList_load_row_on rfl 55 (.tmp 3) rfl w.heap.size rfl 55 _ _ _ hk3 Tryd.underlying55 rfl (bpSize _) ?_) | ((with_reducible change wpList _ _ _ _ _ _); refine wpList_load_row_on rfl 25 (.tmp 4) rfl (w.heap.size + 1) rfl 25 _ _ _ hm3 Tryd.underlying25 rfl macSize ?_))
  refine (hC.out _).mono ?_
  rintro e w4 ⟨rfl, hb4⟩
  have hk4 := heap_kept hb4 hk3
  have hm4 := heap_kept hb4 hm3
  have hW4 := hide (hW3.out.later hb4)
  clear hb4 hk3 hm3 hW3
  go_wp2_with (first | ((with_reducible change wpList _ _ _ _ _ _); refine wpList_load_row_on rfl 55 (.tmp 3) rfl w.heap.size rfl 55 _ _ _ hk4 Tryd.underlying55 rfl (bpSize _) ?_) | ((with_reducible change wpList _ _ _ _ _ _); refine wpList_load_row_on rfl 25 (.tmp 4) rfl (w.heap.size + 1) rfl 25 _ _ _ hm4 Tryd.underlying25 rfl macSize ?_))
  refine (hGr.out _).mono ?_
  rintro e w5 ⟨rfl, hb5⟩
  have hk5 := heap_kept hb5 hk4
  have hm5 := heap_kept hb5 hm4
  have hW5 := hide (hW4.out.later hb5)
  clear hb5 hk4 hm4 hW4
  go_wp2
  go_ret
  exact ⟨rfl, hW5.out⟩
set_option maxRecDepth 20000 in
set_option maxHeartbeats 4000000 in
theorem WM_ok (b : Bp) (s0 s1 s2 s3 s4 s5 vid : Int) (w : World) (hT : Tab w) (hW : b.wf) (hs : Byte [s0, s1, s2, s3, s4, s5]) (hE : bcheckE b = 0) (ho : ¬ s0 % 2 = 1) (v0 : decide (vid < 0) = false) (v1 : decide (4094 < vid) = false) :
    Calls Tryd.prog 17 #[.agg b.row, .agg (mac6 s0 s1 s2 s3 s4 s5), .int .i64 vid] w fun e w' => e = .returned (.bool true) ∧ Below w.heap.size w w' := by
  have hC := hide (fun w => BCheck_any b w hW)
  rw [hE] at hC
  have hGr := hide (fun w => Group_no s0 s1 s2 s3 s4 s5 w (hs s0 (by simp)) ho)
  have hB := hide (fun w hT => BFrame_ok b s0 s1 s2 s3 s4 s5 w hT hW hE hs ho)
  have hchk : checkE (frameH s0 s1 s2 s3 s4 s5 (bbuildL b).length) (bbuildL b).length = 0 := by rw [frameH_check s0 s1 s2 s3 s4 s5 (bbuildL b).length (by have := bbuildL_le b; omega), if_neg ho]
  have hCa := hide (carr_build (frameH_bytes _ _ _ _ _ _ _ hs) hchk)
  have hMp := hide (parsed_of_check (frameH_bytes _ _ _ _ _ _ _ hs) hchk).2
  have hEt : Hid (checkE (withTag (frameH s0 s1 s2 s3 s4 s5 (bbuildL b).length) true 7 false vid) 0 = 0) := by
    show _ = _
    rw [check_with ho, if_neg]
    simp at v0 v1
    simp [tagFitsB]
    omega
  have hLe := hide (bbuildL_le b)
  have hPd := hide (fun r => bparsed_build hW hE r)
  have heq : ∀ w, (binOp .eql 55 (.agg b.row) (.agg b.row)).run Tryd.prog w = .ok (.bool true) w := fun w => by rw [bp_eql b b hW hW]; simp
  have hneq : ∀ w, (binOp .neq 55 (.agg b.row) (.agg b.row)).run Tryd.prog w = .ok (.bool false) w := fun w => by rw [bp_neq b b hW hW]; simp
  have hgd := eqGuard_bp
  have hms : ∀ w, (binOp .neq 25 (.agg (mac6 s0 s1 s2 s3 s4 s5)) (.agg (mac6 s0 s1 s2 s3 s4 s5))).run Tryd.prog w = .ok (.bool false) w := fun w => by rw [mac_neq _ _ _ _ _ _ _ _ _ _ _ _ hs hs]; simp
  have hgm := eqGuard_mac
  clear hchk
  generalize bbuildL b = D at *
  have hRy := hide (fun w => Reserved_any 1 128 194 0 0 0 w G0_byte)
  rw [show resB 1 128 194 0 0 0 = true by decide] at hRy
  have hTx := hide (fun w => Text_any 0 0 0 0 0 0 w Z0_byte)
  rw [textZ] at hTx
  have HT := hide hT
  have HWf := hide hW
  have HSb := hide hs
  have hk := heap_kept (below1 (w.alloc (.cells b.row 55)) (.cells (mac6 s0 s1 s2 s3 s4 s5) 25)) (heap_alloc_new w (.cells b.row 55))
  have hm := heap_alloc_new (w.alloc (.cells b.row 55)) (.cells (mac6 s0 s1 s2 s3 s4 s5) 25)
  rw [World.size_alloc] at hm
  have hb0 := (below1 w (.cells b.row 55)).later (below1 (w.alloc (.cells b.row 55)) (.cells (mac6 s0 s1 s2 s3 s4 s5) 25))
  clear hT hW hs hE ho
  go_enter Tryd.func17, Tryd.ntmps17
  go_wp2_with fail
  refine (BGroup_any _).mono ?_
  rintro e w1 ⟨rfl, hb1⟩
  have hk1 := heap_kept hb1 hk
  have hm1 := heap_kept hb1 hm
  have hW1 := hide (hb0.later hb1)
  clear hb1 hb0 hk hm
  go_wp2_with fail
  refine (hRy.out _).mono ?_
  rintro e w2 ⟨rfl, hb2⟩
  have hk2 := heap_kept hb2 hk1
  have hm2 := heap_kept hb2 hm1
  have hW2 := hide (hW1.out.later hb2)
  clear hb2 hk1 hm1 hW1
  go_wp2_with fail
  refine (hTx.out _).mono ?_
  rintro e w3 ⟨rfl, hb3⟩
  have hk3 := heap_kept hb3 hk2
  have hm3 := heap_kept hb3 hm2
  have hW3 := hide (hW2.out.later hb3)
  clear hb3 hk2 hm2 hW2
  clear hTx
  go_wp2_with (first | ((with_reducible change wpList _ _ _ _ _ _); refine wpList_load_row_on rfl 55 (.tmp 3) rfl w.heap.size rfl 55 _ _ _ hk3 Tryd.underlying55 rfl (bpSize _) ?_) | ((with_reducible change wpList _ _ _ _ _ _); refine wpList_load_row_on rfl 25 (.tmp 4) rfl (w.heap.size + 1) rfl 25 _ _ _ hm3 Tryd.underlying25 rfl macSize ?_))
  refine (hC.out _).mono ?_
  rintro e w4 ⟨rfl, hb4⟩
  have hk4 := heap_kept hb4 hk3
  have hm4 := heap_kept hb4 hm3
  have hW4 := hide (hW3.out.later hb4)
  clear hb4 hk3 hm3 hW3
  go_wp2_with (first | ((with_reducible change wpList _ _ _ _ _ _); refine wpList_load_row_on rfl 55 (.tmp 3) rfl w.heap.size rfl 55 _ _ _ hk4 Tryd.underlying55 rfl (bpSize _) ?_) | ((with_reducible change wpList _ _ _ _ _ _); refine wpList_load_row_on rfl 25 (.tmp 4) rfl (w.heap.size + 1) rfl 25 _ _ _ hm4 Tryd.underlying25 rfl macSize ?_))
  refine (hGr.out _).mono ?_
  rintro e w5 ⟨rfl, hb5⟩
  have hk5 := heap_kept hb5 hk4
  have hm5 := heap_kept hb5 hm4
  have hW5 := hide (hW4.out.later hb5)
  clear hb5 hk4 hm4 hW4
  clear hC hGr
  go_wp2_with (first | ((with_reducible change wpList _ _ _ _ _ _); refine wpList_load_row_on rfl 55 (.tmp 3) rfl w.heap.size rfl 55 _ _ _ hk5 Tryd.underlying55 rfl (bpSize _) ?_) | ((with_reducible change wpList _ _ _ _ _ _); refine wpList_load_row_on rfl 25 (.tmp 4) rfl (w.heap.size + 1) rfl 25 _ _ _ hm5 Tryd.underlying25 rfl macSize ?_))
  refine (hB.out _ (HT.out.later hW5.out)).mono ?_
  rintro e w6 ⟨g6, n6, rfl, hn6, hB6, hb6⟩
  have HB6 := hide hB6
  have hk6 := heap_kept hb6 hk5
  have hm6 := heap_kept hb6 hm5
  have hW6 := hide (hW5.out.later hb6)
  clear hb6 hk5 hm5 hW5
  clear hn6 hB6 hB
  go_wp2_with fail
  have hP7 := Parse_any HB6.out (HT.out.later hW6.out)
  have hMp' := hMp.out
  simp only [if_true] at hMp'
  rw [hMp'] at hP7
  refine hP7.mono ?_
  rintro e w7 ⟨qa, qn, qc, rfl, hQ7, hb7⟩
  have HQ7 := hide hQ7
  have HB7 := hide (HB6.out.below hb7)
  have hk7 := heap_kept hb7 hk6
  have hm7 := heap_kept hb7 hm6
  have hW7 := hide (hW6.out.later hb7)
  clear hb7 hk6 hm6 hW6
  clear hP7 hMp' hQ7 HB6 hMp
  go_wp2_with ((with_reducible change wpList _ _ _ _ _ _); refine wpList_store_fresh rfl 27 (.tmp 9) (.tmp 53) rfl (Hd.mk 1 128 194 0 0 0 s0 s1 s2 s3 s4 s5 false 0 false 0 D.length true).row Hd.zero.row rfl rfl 27 (hdSize _) rfl (Hd.row_all _) ?_; intro w8 hK8 hb8; have hk8 := heap_kept hb8 hk7; have hm8 := heap_kept hb8 hm7; have hW8 := hide (hW7.out.later hb8); have HQ8 := hide (HQ7.out.below hb8); have HB8 := hide (HB7.out.below hb8); clear hb8 hk7 hm7 hW7 HQ7 HB7)
  have hP9 := BParse_any HQ8.out (show D.length ≤ 1000000 by have := hLe.out; omega)
  rw [show bparsed D = (b, 0) by have := hPd.out []; rwa [List.append_nil] at this] at hP9
  refine hP9.mono ?_
  rintro e w9 ⟨rfl, hb9⟩
  have hK9 := heap_kept hb9 hK8
  have HB9 := hide (HB8.out.below hb9)
  have hk9 := heap_kept hb9 hk8
  have hm9 := heap_kept hb9 hm8
  have hW9 := hide (hW8.out.later hb9)
  clear hb9 hk8 hm8 hW8
  clear hP9 hK8 HQ8 HB8
  go_wp2_with ((with_reducible change wpList _ _ _ _ _ _); refine wpList_store_fresh rfl 55 (.tmp 12) (.tmp 59) rfl b.row Bp.zero.row rfl rfl 55 (bpSize _) rfl (Bp.row_all _) ?_; intro w10 hJ10 hb10; have hk10 := heap_kept hb10 hk9; have hm10 := heap_kept hb10 hm9; have hK10 := heap_kept hb10 hK9; have hW10 := hide (hW9.out.later hb10); have HB10 := hide (HB9.out.below hb10); have c12 : w10.cell? ⟨w7.heap.size, 12, none⟩ = some (.bool false) := (cell_of_row _ _ _ _ _ _ hK10).trans rfl; clear hb10 hk9 hm9 hK9 hW9 HB9; refine unh ?_)
  refine hide ?_
  go_wp2_with (first | ((with_reducible change wpList _ _ _ _ _ _); refine wpList_load_row_on rfl 55 (.tmp 12) rfl w9.heap.size rfl 55 _ _ _ hJ10 Tryd.underlying55 rfl (bpSize _) ?_) | ((with_reducible change wpList _ _ _ _ _ _); refine wpList_load_row_on rfl 55 (.tmp 3) rfl w.heap.size rfl 55 _ _ _ hk10 Tryd.underlying55 rfl (bpSize _) ?_) | ((with_reducible change wpList _ _ _ _ _ _); refine stop_load 25 (.tmp 77) rfl ?_))
  refine hide ?_
  refine wpList_load_src rfl (.tmp 77) rfl w7.heap.size rfl (Hd.mk 1 128 194 0 0 0 s0 s1 s2 s3 s4 s5 false 0 false 0 D.length true) _ _ hK10 ?_
  refine wpList_load_row_on rfl 25 (.tmp 4) rfl (w.heap.size + 1) rfl 25 _ _ _ hm10 Tryd.underlying25 rfl macSize ?_
  simp only [Act.put, List.setIfInBounds_toArray, List.set_cons_zero, List.set_cons_succ]
  go_wp2_with ((with_reducible change wpList _ _ _ _ _ _); refine stop_load 25 (.tmp 83) rfl ?_)
  refine hide ?_
  refine wpList_load_dst rfl (.tmp 83) rfl w7.heap.size rfl (Hd.mk 1 128 194 0 0 0 s0 s1 s2 s3 s4 s5 false 0 false 0 D.length true) _ _ hK10 ?_
  simp only [Act.put, List.setIfInBounds_toArray, List.set_cons_zero, List.set_cons_succ]
  go_wp2_with fail
  refine (hRy.out _).mono ?_
  rintro e w11 ⟨rfl, hb11⟩
  have c12' := cell_later' hb11 c12
  have HB11 := hide (HB10.out.below hb11)
  have hk11 := heap_kept hb11 hk10
  have hm11 := heap_kept hb11 hm10
  have hW11 := hide (hW10.out.later hb11)
  clear hb11 hk10 hm10 hW10
  clear hRy c12 hJ10 hK10 HB10
  go_wp2_with fail
  have hR12 := Retag_ok HB11.out (HT.out.later hW11.out) hCa.out.good true 7 false vid (by rw [hCa.out.hd]; exact hEt.out) (.inl rfl)
  have hC12 := hide (carr_retag HB11.out.byte hCa.out true 7 false vid hEt.out (.inl rfl))
  refine hR12.mono ?_
  rintro e w12 ⟨g12, n12, rfl, hn12, hB12, hb12⟩
  have HB12 := hide hB12
  have hk12 := heap_kept hb12 hk11
  have hm12 := heap_kept hb12 hm11
  have hW12 := hide (hW11.out.later hb12)
  clear hb12 hk11 hm11 hW11
  clear hn12 hB12 hR12 HB11 c12' hCa
  obtain ⟨m12, hP12, hm12'⟩ := carr_parsed hC12.out
  obtain rfl : m12 = 0 := hm12' rfl
  clear hm12'
  go_wp2_with fail
  have hP13 := Parse_any HB12.out (HT.out.later hW12.out)
  rw [hP12] at hP13
  refine hP13.mono ?_
  rintro e w13 ⟨ra, rn, rc, rfl, hQ13, hb13⟩
  have HQ13 := hide hQ13
  have hk13 := heap_kept hb13 hk12
  have hm13 := heap_kept hb13 hm12
  have hW13 := hide (hW12.out.later hb13)
  clear hb13 hk12 hm12 hW12
  clear hP13 hQ13 HB12 hP12
  go_wp2_with ((with_reducible change wpList _ _ _ _ _ _); refine wpList_store_fresh rfl 27 (.tmp 16) (.tmp 101) rfl (Hd.mk 1 128 194 0 0 0 s0 s1 s2 s3 s4 s5 true 7 false vid D.length true).row Hd.zero.row rfl rfl 27 (hdSize _) rfl (Hd.row_all _) ?_; intro w14 hK14 hb14; have hk14 := heap_kept hb14 hk13; have hm14 := heap_kept hb14 hm13; have hW14 := hide (hW13.out.later hb14); have HQ14 := hide (HQ13.out.below hb14); clear hb14 hk13 hm13 hW13 HQ13)
  have hP15 := BParse_any HQ14.out (by have := hLe.out; simp; omega)
  rw [hPd.out] at hP15
  refine hP15.mono ?_
  rintro e w15 ⟨rfl, hb15⟩
  have hK15 := heap_kept hb15 hK14
  have hk15 := heap_kept hb15 hk14
  have hm15 := heap_kept hb15 hm14
  have hW15 := hide (hW14.out.later hb15)
  clear hb15 hk14 hm14 hW14
  clear hP15 hK14 HQ14
  go_wp2_with ((with_reducible change wpList _ _ _ _ _ _); refine wpList_store_fresh rfl 55 (.tmp 19) (.tmp 107) rfl b.row Bp.zero.row rfl rfl 55 (bpSize _) rfl (Bp.row_all _) ?_; intro w16 hJ16 hb16; have hk16 := heap_kept hb16 hk15; have hK16 := heap_kept hb16 hK15; have hW16 := hide (hW15.out.later hb16); have c12 : w16.cell? ⟨w13.heap.size, 12, none⟩ = some (.bool true) := (cell_of_row _ _ _ _ _ _ hK16).trans rfl; have c15 : w16.cell? ⟨w13.heap.size, 15, none⟩ = some (.int .i64 vid) := (cell_of_row _ _ _ _ _ _ hK16).trans rfl; clear hb16 hk15 hm15 hK15 hW15 hK16; refine unh ?_)
  refine hide ?_
  go_wp2_with ((with_reducible change wpList _ _ _ _ _ _); refine stop_load 55 (.tmp 19) rfl ?_)
  refine hide ?_
  refine wpList_load_row_on rfl 55 (.tmp 19) rfl w15.heap.size rfl 55 _ _ _ hJ16 Tryd.underlying55 rfl (bpSize _) ?_
  refine wpList_load_row_on rfl 55 (.tmp 3) rfl w.heap.size rfl 55 _ _ _ hk16 Tryd.underlying55 rfl (bpSize _) ?_
  simp only [Act.put, List.setIfInBounds_toArray, List.set_cons_zero, List.set_cons_succ]
  go_wp2_with fail
  go_ret
  exact ⟨rfl, hW16.out⟩
theorem WM_walk (b : Bp) (s0 s1 s2 s3 s4 s5 vid : Int) (w : World) (hT : Tab w) (hW : b.wf) (hs : Byte [s0, s1, s2, s3, s4, s5]) :
    Calls Tryd.prog 17 #[.agg b.row, .agg (mac6 s0 s1 s2 s3 s4 s5), .int .i64 vid] w fun e w' => e = .returned (.bool true) ∧ Below w.heap.size w w' := by
  by_cases hE : bcheckE b = 0
  · by_cases ho : s0 % 2 = 1
    · exact WM_grp b s0 s1 s2 s3 s4 s5 vid w hT hW hs hE ho
    by_cases v0 : vid < 0
    · exact WM_v0 b s0 s1 s2 s3 s4 s5 vid w hT hW hs hE ho (by simpa using v0)
    by_cases v1 : 4094 < vid
    · exact WM_v1 b s0 s1 s2 s3 s4 s5 vid w hT hW hs hE ho (by simpa using v0) (by simpa using v1)
    exact WM_ok b s0 s1 s2 s3 s4 s5 vid w hT hW hs hE ho (by simpa using v0) (by simpa using v1)
  · exact WM_bad b s0 s1 s2 s3 s4 s5 vid w hT hW hs hE
end Go.Proofs.YtiimppbfigikfaaDoor
