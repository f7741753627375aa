/-
  The statement BpduFrames, walked. Condition: the table lies as the program's text lays it ('Tab').
-/
import Derived.Test.YtiimppbfigikfaaDoorBq7
import Derived.Test.YtiimppbfigikfaaDoorFlatB
namespace Go.Proofs.YtiimppbfigikfaaDoor
open Go.RowKit
set_option linter.unusedVariables false

theorem frame_len (a b c d e f : Int) (l : List Int) (h : l.length ≤ 46) : (buildL (frameH a b c d e f l.length) l).length = 64 := by
  unfold buildL
  rw [sealL_length, pad60_length, bodyL_length, tagL_len]
  simp
  omega
set_option maxRecDepth 20000 in
theorem BF_bad (b : Bp) (s0 s1 s2 s3 s4 s5 : Int) (w : World) (hT : Tab w) (hW : b.wf) (hE : bcheckE b ≠ 0) (hs : Byte [s0, s1, s2, s3, s4, s5]) :
    Calls Tryd.prog 14 #[.agg b.row, .agg (mac6 s0 s1 s2 s3 s4 s5)] w fun e w' => e = .returned (.bool true) ∧ Below w.heap.size w w' := by
  have hB := hide (fun w => BFrame_bad b s0 s1 s2 s3 s4 s5 w hW hE)
  have hC := hide (fun w => BCheck_any b w hW)
  have hne : (bcheckE b != 0) = true := by simpa using hE
  generalize bcheckE b = E at *
  have hF := hide (fun w hT => tells_any w hT)
  have HT := hide hT
  have hk := heap_kept (below1 (w.alloc (.cells b.row 55)) (.cells (mac6 s0 s1 s2 s3 s4 s5) 25)) (heap_alloc_new w (.cells b.row 55))
  have hm := heap_alloc_new (w.alloc (.cells b.row 55)) (.cells (mac6 s0 s1 s2 s3 s4 s5) 25)
  rw [World.size_alloc] at hm
  have hb0 := (below1 w (.cells b.row 55)).later (below1 (w.alloc (.cells b.row 55)) (.cells (mac6 s0 s1 s2 s3 s4 s5) 25))
  clear hT hW hE hs
  go_enter Tryd.func14, Tryd.ntmps14
  go_wp2_with fail
  refine (hF.out _ (HT.out.later hb0)).mono ?_
  rintro e w1 ⟨rfl, hb1⟩
  have hk1 := heap_kept hb1 hk
  have hm1 := heap_kept hb1 hm
  have hW1 := hide (hb0.later hb1)
  clear hb1 hb0 hk hm hF
  go_wp2_with (first | ((with_reducible change wpList _ _ _ _ _ _); refine wpList_load_row rfl 55 (.tmp 2) rfl w.heap.size rfl 55 _ _ _ hk1 Tryd.underlying55 rfl (bpSize _) ?_) | ((with_reducible change wpList _ _ _ _ _ _); refine wpList_load_row rfl 25 (.tmp 3) rfl (w.heap.size + 1) rfl 25 _ _ _ hm1 Tryd.underlying25 rfl macSize ?_))
  refine (hB.out _).mono ?_
  rintro e w2 ⟨rfl, hb2⟩
  have hk2 := heap_kept hb2 hk1
  have hm2 := heap_kept hb2 hm1
  have hW2 := hide (hW1.out.later hb2)
  clear hb2 hk1 hm1 hW1
  go_wp2_with (first | ((with_reducible change wpList _ _ _ _ _ _); refine wpList_load_row rfl 55 (.tmp 2) rfl w.heap.size rfl 55 _ _ _ hk2 Tryd.underlying55 rfl (bpSize _) ?_) | ((with_reducible change wpList _ _ _ _ _ _); refine wpList_load_row rfl 25 (.tmp 3) rfl (w.heap.size + 1) rfl 25 _ _ _ hm2 Tryd.underlying25 rfl macSize ?_))
  refine (hC.out _).mono ?_
  rintro e w3 ⟨rfl, hb3⟩
  have hk3 := heap_kept hb3 hk2
  have hm3 := heap_kept hb3 hm2
  have hW3 := hide (hW2.out.later hb3)
  clear hb3 hk2 hm2 hW2
  go_wp2_with (first | ((with_reducible change wpList _ _ _ _ _ _); refine wpList_load_row rfl 55 (.tmp 2) rfl w.heap.size rfl 55 _ _ _ hk3 Tryd.underlying55 rfl (bpSize _) ?_) | ((with_reducible change wpList _ _ _ _ _ _); refine wpList_load_row rfl 25 (.tmp 3) rfl (w.heap.size + 1) rfl 25 _ _ _ hm3 Tryd.underlying25 rfl macSize ?_))
  refine (hC.out _).mono ?_
  rintro e w4 ⟨rfl, hb4⟩
  have hk4 := heap_kept hb4 hk3
  have hm4 := heap_kept hb4 hm3
  have hW4 := hide (hW3.out.later hb4)
  clear hb4 hk3 hm3 hW3
  go_wp2
  go_ret
  exact ⟨ret_bool (by simp), hW4.out⟩
set_option maxRecDepth 20000 in
theorem BF_group (b : Bp) (s0 s1 s2 s3 s4 s5 : Int) (w : World) (hT : Tab w) (hW : b.wf) (hE : bcheckE b = 0) (hs : Byte [s0, s1, s2, s3, s4, s5]) (ho : s0 % 2 = 1) :
    Calls Tryd.prog 14 #[.agg b.row, .agg (mac6 s0 s1 s2 s3 s4 s5)] w fun e w' => e = .returned (.bool true) ∧ Below w.heap.size w w' := by
  have hB := hide (fun w hT => BFrame_group b s0 s1 s2 s3 s4 s5 w hT hW hE hs ho)
  have hC := hide (fun w => BCheck_any b w hW)
  rw [hE] at hC
  have hGr := hide (fun w => Group_yes s0 s1 s2 s3 s4 s5 w (hs s0 (by simp)) ho)
  have hF := hide (fun w hT => tells_any w hT)
  have HT := hide hT
  have hk := heap_kept (below1 (w.alloc (.cells b.row 55)) (.cells (mac6 s0 s1 s2 s3 s4 s5) 25)) (heap_alloc_new w (.cells b.row 55))
  have hm := heap_alloc_new (w.alloc (.cells b.row 55)) (.cells (mac6 s0 s1 s2 s3 s4 s5) 25)
  rw [World.size_alloc] at hm
  have hb0 := (below1 w (.cells b.row 55)).later (below1 (w.alloc (.cells b.row 55)) (.cells (mac6 s0 s1 s2 s3 s4 s5) 25))
  clear hT hW hE hs ho
  go_enter Tryd.func14, Tryd.ntmps14
  go_wp2_with fail
  refine (hF.out _ (HT.out.later hb0)).mono ?_
  rintro e w1 ⟨rfl, hb1⟩
  have hk1 := heap_kept hb1 hk
  have hm1 := heap_kept hb1 hm
  have hW1 := hide (hb0.later hb1)
  clear hb1 hb0 hk hm hF
  go_wp2_with (first | ((with_reducible change wpList _ _ _ _ _ _); refine wpList_load_row rfl 55 (.tmp 2) rfl w.heap.size rfl 55 _ _ _ hk1 Tryd.underlying55 rfl (bpSize _) ?_) | ((with_reducible change wpList _ _ _ _ _ _); refine wpList_load_row rfl 25 (.tmp 3) rfl (w.heap.size + 1) rfl 25 _ _ _ hm1 Tryd.underlying25 rfl macSize ?_))
  refine (hB.out _ (HT.out.later hW1.out)).mono ?_
  rintro e w2 ⟨rfl, hb2⟩
  have hk2 := heap_kept hb2 hk1
  have hm2 := heap_kept hb2 hm1
  have hW2 := hide (hW1.out.later hb2)
  clear hb2 hk1 hm1 hW1
  go_wp2_with (first | ((with_reducible change wpList _ _ _ _ _ _); refine wpList_load_row rfl 55 (.tmp 2) rfl w.heap.size rfl 55 _ _ _ hk2 Tryd.underlying55 rfl (bpSize _) ?_) | ((with_reducible change wpList _ _ _ _ _ _); refine wpList_load_row rfl 25 (.tmp 3) rfl (w.heap.size + 1) rfl 25 _ _ _ hm2 Tryd.underlying25 rfl macSize ?_))
  refine (hC.out _).mono ?_
  rintro e w3 ⟨rfl, hb3⟩
  have hk3 := heap_kept hb3 hk2
  have hm3 := heap_kept hb3 hm2
  have hW3 := hide (hW2.out.later hb3)
  clear hb3 hk2 hm2 hW2
  go_wp2_with (first | ((with_reducible change wpList _ _ _ _ _ _); refine wpList_load_row rfl 55 (.tmp 2) rfl w.heap.size rfl 55 _ _ _ hk3 Tryd.underlying55 rfl (bpSize _) ?_) | ((with_reducible change wpList _ _ _ _ _ _); refine wpList_load_row rfl 25 (.tmp 3) rfl (w.heap.size + 1) rfl 25 _ _ _ hm3 Tryd.underlying25 rfl macSize ?_))
  refine (hGr.out _).mono ?_
  rintro e w4 ⟨rfl, hb4⟩
  have hk4 := heap_kept hb4 hk3
  have hm4 := heap_kept hb4 hm3
  have hW4 := hide (hW3.out.later hb4)
  clear hb4 hk3 hm3 hW3
  go_wp2
  go_ret
  exact ⟨rfl, hW4.out⟩
set_option maxRecDepth 20000 in
set_option maxHeartbeats 4000000 in
theorem BF_ok (b : Bp) (s0 s1 s2 s3 s4 s5 : Int) (w : World) (hT : Tab w) (hW : b.wf) (hE : bcheckE b = 0) (hs : Byte [s0, s1, s2, s3, s4, s5]) (ho : ¬ s0 % 2 = 1) :
    Calls Tryd.prog 14 #[.agg b.row, .agg (mac6 s0 s1 s2 s3 s4 s5)] w fun e w' => e = .returned (.bool true) ∧ Below w.heap.size w w' := by
  have hB := hide (fun w hT => BFrame_ok b s0 s1 s2 s3 s4 s5 w hT hW hE hs ho)
  have hC := hide (fun w => BCheck_any b w hW)
  rw [hE] at hC
  have hGr := hide (fun w => Group_no s0 s1 s2 s3 s4 s5 w (hs s0 (by simp)) ho)
  have hPd := hide (by have := bparsed_build hW hE []; rwa [List.append_nil] at this)
  have hLe := hide (bbuildL_le b)
  have hFl := hide (frame_len s0 s1 s2 s3 s4 s5 (bbuildL b) (by have := bbuildL_le b; omega))
  have hMp := hide (parsed_of_check (h := frameH s0 s1 s2 s3 s4 s5 (bbuildL b).length) (l := bbuildL b) (frameH_bytes _ _ _ _ _ _ _ hs) (by rw [frameH_check s0 s1 s2 s3 s4 s5 (bbuildL b).length (by have := bbuildL_le b; omega), if_neg ho])).2
  have heq : ∀ w, (binOp .eql 55 (.agg b.row) (.agg b.row)).run Tryd.prog w = .ok (.bool true) w := fun w => by rw [bp_eql b b hW hW]; simp
  have hgd := eqGuard_bp
  have hms : ∀ w, (binOp .eql 25 (.agg (mac6 s0 s1 s2 s3 s4 s5)) (.agg (mac6 s0 s1 s2 s3 s4 s5))).run Tryd.prog w = .ok (.bool true) w := fun w => by rw [mac_eql _ _ _ _ _ _ _ _ _ _ _ _ hs hs]; simp
  have hmg : ∀ w, (binOp .eql 25 (.agg (mac6 1 128 194 0 0 0)) (.agg (mac6 1 128 194 0 0 0))).run Tryd.prog w = .ok (.bool true) w := fun w => by rw [mac_eql _ _ _ _ _ _ _ _ _ _ _ _ G0_byte G0_byte]; simp
  have hgm := eqGuard_mac
  generalize bbuildL b = D at *
  have hF := hide (fun w hT => tells_any w hT)
  have HT := hide hT
  have hk := heap_kept (below1 (w.alloc (.cells b.row 55)) (.cells (mac6 s0 s1 s2 s3 s4 s5) 25)) (heap_alloc_new w (.cells b.row 55))
  have hm := heap_alloc_new (w.alloc (.cells b.row 55)) (.cells (mac6 s0 s1 s2 s3 s4 s5) 25)
  rw [World.size_alloc] at hm
  have hb0 := (below1 w (.cells b.row 55)).later (below1 (w.alloc (.cells b.row 55)) (.cells (mac6 s0 s1 s2 s3 s4 s5) 25))
  clear hT hW hE hs ho
  go_enter Tryd.func14, Tryd.ntmps14
  go_wp2_with fail
  refine (hF.out _ (HT.out.later hb0)).mono ?_
  rintro e w1 ⟨rfl, hb1⟩
  have hk1 := heap_kept hb1 hk
  have hm1 := heap_kept hb1 hm
  have hW1 := hide (hb0.later hb1)
  clear hb1 hb0 hk hm hF
  go_wp2_with (first | ((with_reducible change wpList _ _ _ _ _ _); refine wpList_load_row rfl 55 (.tmp 2) rfl w.heap.size rfl 55 _ _ _ hk1 Tryd.underlying55 rfl (bpSize _) ?_) | ((with_reducible change wpList _ _ _ _ _ _); refine wpList_load_row rfl 25 (.tmp 3) rfl (w.heap.size + 1) rfl 25 _ _ _ hm1 Tryd.underlying25 rfl macSize ?_))
  refine (hB.out _ (HT.out.later hW1.out)).mono ?_
  rintro e w2 ⟨g2, n2, rfl, hn2, hB2, hb2⟩
  rw [hFl.out] at hn2
  subst hn2
  have HB2 := hide hB2
  have hk2 := heap_kept hb2 hk1
  have hm2 := heap_kept hb2 hm1
  have hW2 := hide (hW1.out.later hb2)
  clear hb2 hk1 hm1 hW1
  clear hB2 hB
  go_wp2_with (first | ((with_reducible change wpList _ _ _ _ _ _); refine wpList_load_row rfl 55 (.tmp 2) rfl w.heap.size rfl 55 _ _ _ hk2 Tryd.underlying55 rfl (bpSize _) ?_) | ((with_reducible change wpList _ _ _ _ _ _); refine wpList_load_row rfl 25 (.tmp 3) rfl (w.heap.size + 1) rfl 25 _ _ _ hm2 Tryd.underlying25 rfl macSize ?_))
  refine (hC.out _).mono ?_
  rintro e w3 ⟨rfl, hb3⟩
  have HB3 := hide (HB2.out.below hb3)
  have hk3 := heap_kept hb3 hk2
  have hm3 := heap_kept hb3 hm2
  have hW3 := hide (hW2.out.later hb3)
  clear hb3 hk2 hm2 hW2
  clear hC HB2
  go_wp2_with (first | ((with_reducible change wpList _ _ _ _ _ _); refine wpList_load_row rfl 55 (.tmp 2) rfl w.heap.size rfl 55 _ _ _ hk3 Tryd.underlying55 rfl (bpSize _) ?_) | ((with_reducible change wpList _ _ _ _ _ _); refine wpList_load_row rfl 25 (.tmp 3) rfl (w.heap.size + 1) rfl 25 _ _ _ hm3 Tryd.underlying25 rfl macSize ?_))
  refine (hGr.out _).mono ?_
  rintro e w4 ⟨rfl, hb4⟩
  have HB4 := hide (HB3.out.below hb4)
  have hk4 := heap_kept hb4 hk3
  have hm4 := heap_kept hb4 hm3
  have hW4 := hide (hW3.out.later hb4)
  clear hb4 hk3 hm3 hW3
  clear hGr HB3
  go_wp2_with fail
  have hP5 := Parse_any HB4.out (HT.out.later hW4.out)
  have hMp' := hMp.out
  simp only [if_true] at hMp'
  rw [hMp'] at hP5
  refine hP5.mono ?_
  rintro e w5 ⟨qa, qn, qc, rfl, hQ5, hb5⟩
  have HQ5 := hide hQ5
  have hk5 := heap_kept hb5 hk4
  have hm5 := heap_kept hb5 hm4
  have hW5 := hide (hW4.out.later hb5)
  clear hb5 hk4 hm4 hW4
  clear hP5 hMp' hQ5 HB4 hMp
  go_wp2_with ((with_reducible change wpList _ _ _ _ _ _); refine wpList_store_fresh rfl 27 (.tmp 7) (.tmp 44) rfl (frameH s0 s1 s2 s3 s4 s5 D.length).row Hd.zero.row rfl rfl 27 (hdSize _) rfl (Hd.row_all _) ?_; intro w6 hK6 hb6; have hk6 := heap_kept hb6 hk5; have hm6 := heap_kept hb6 hm5; have hW6 := hide (hW5.out.later hb6); have HQ6 := hide (HQ5.out.below hb6); clear hb6 hk5 hm5 hW5 HQ5)
  have hP7 := BParse_any HQ6.out (show D.length ≤ 1000000 by have := hLe.out; omega)
  rw [show bparsed D = (b, 0) from hPd.out] at hP7
  refine hP7.mono ?_
  rintro e w7 ⟨rfl, hb7⟩
  have hK7 := heap_kept hb7 hK6
  have hk7 := heap_kept hb7 hk6
  have hm7 := heap_kept hb7 hm6
  have hW7 := hide (hW6.out.later hb7)
  clear hb7 hk6 hm6 hW6
  clear hP7 hK6 HQ6
  go_wp2_with ((with_reducible change wpList _ _ _ _ _ _); refine wpList_store_fresh rfl 55 (.tmp 10) (.tmp 50) rfl b.row Bp.zero.row rfl rfl 55 (bpSize _) rfl (Bp.row_all _) ?_; intro w8 hJ8 hb8; have hk8 := heap_kept hb8 hk7; have hm8 := heap_kept hb8 hm7; have hK8 := heap_kept hb8 hK7; have hW8 := hide (hW7.out.later hb8); clear hb8 hk7 hm7 hK7 hW7)
  have c17 : w8.cell? ⟨w5.heap.size, 17, none⟩ = some (.bool true) := (cell_of_row _ _ _ _ _ _ hK8).trans rfl
  have c12 : w8.cell? ⟨w5.heap.size, 12, none⟩ = some (.bool false) := (cell_of_row _ _ _ _ _ _ hK8).trans rfl
  have hD : Below w8.heap.size w8 w8.drew := below_drewN (Below.refl _ _) 1
  have HS : Hid (∀ W, Below w8.heap.size w8 W → Below w8.heap.size w8 W ∧ W.cell? ⟨w5.heap.size, 17, none⟩ = some (.bool true) ∧ W.cell? ⟨w5.heap.size, 12, none⟩ = some (.bool false)) := fun W h => ⟨h, cell_later' h c17, cell_later' h c12⟩
  have HD := hide hD
  have HK8 := hide hK8
  have Hk8 := hide hk8
  have Hm8 := hide hm8
  have HJ8 := hide hJ8
  clear hD hK8 hk8 hm8 hJ8 c17 c12
  refine wp_region_noPanic ?_
  refine wp_region_held_drew (S := fun W => Below w8.heap.size w8 W ∧ W.cell? ⟨w5.heap.size, 17, none⟩ = some (.bool true) ∧ W.cell? ⟨w5.heap.size, 12, none⟩ = some (.bool false)) (by kernel_rfl) (HS.out _ HD.out) (fun hHeld => ?_)
  refine wpAnyH_take (i := 0) (oi := { dst := some 52, op := Op.move (Operand.tmp 6), type := 28, pos := "law.go:97", after := #[], guard := none }) (v := ?v1) rfl (by kernel_rfl) (by kernel_rfl) (by kernel_rfl) (fun _ _ _ h => h) (Or.inl ⟨by rfl, ?y1⟩) (by assumption) ?r1
  case y1 => (intro w hSw; (try dsimp only at hSw); (try (go_split_ands)); go_simp; try with_reducible rfl)
  try simp only [Act.put, List.setIfInBounds_toArray, List.set_cons_zero, List.set_cons_succ]
  refine wpAnyH_take (i := 1) (oi := { dst := some 53, op := Op.binOp BinOp.eql 28 (Operand.tmp 52) (Operand.const (Value.int IntKind.i64 0)) 28, type := 4, pos := "law.go:97", after := #[{ on := 0, ground := Ground.data }], guard := none }) (v := ?v2) rfl (by kernel_rfl) (by kernel_rfl) (by kernel_rfl) (fun _ _ _ h => h) (Or.inl ⟨by rfl, ?y2⟩) (by assumption) ?r2
  case y2 => (intro w hSw; (try dsimp only at hSw); (try (go_split_ands)); go_simp; try with_reducible rfl)
  try simp only [Act.put, List.setIfInBounds_toArray, List.set_cons_zero, List.set_cons_succ]
  refine wpAnyH_take (i := 2) (oi := { dst := some 54, op := Op.move (Operand.tmp 53), type := 4, pos := "law.go:97", after := #[{ on := 1, ground := Ground.data }], guard := none }) (v := ?v3) rfl (by kernel_rfl) (by kernel_rfl) (by kernel_rfl) (fun _ _ _ h => h) (Or.inl ⟨by rfl, ?y3⟩) (by assumption) ?r3
  case y3 => (intro w hSw; (try dsimp only at hSw); (try (go_split_ands)); go_simp; try with_reducible rfl)
  try simp only [Act.put, List.setIfInBounds_toArray, List.set_cons_zero, List.set_cons_succ]
  refine wpAnyH_take (i := 3) (oi := { dst := some 55, op := Op.move (Operand.tmp 9), type := 28, pos := "law.go:97", after := #[{ on := 2, ground := Ground.guard }], guard := some (2, true) }) (v := ?v4) rfl (by kernel_rfl) (by kernel_rfl) (by kernel_rfl) (fun _ _ _ h => h) (Or.inl ⟨by rfl, ?y4⟩) (by assumption) ?r4
  case y4 => (intro w hSw; (try dsimp only at hSw); (try (go_split_ands)); go_simp; try with_reducible rfl)
  try simp only [Act.put, List.setIfInBounds_toArray, List.set_cons_zero, List.set_cons_succ]
  refine wpAnyH_take (i := 4) (oi := { dst := some 56, op := Op.binOp BinOp.eql 28 (Operand.tmp 55) (Operand.const (Value.int IntKind.i64 0)) 28, type := 4, pos := "law.go:97", after := #[{ on := 3, ground := Ground.data }, { on := 2, ground := Ground.guard }], guard := some (2, true) }) (v := ?v5) rfl (by kernel_rfl) (by kernel_rfl) (by kernel_rfl) (fun _ _ _ h => h) (Or.inl ⟨by rfl, ?y5⟩) (by assumption) ?r5
  case y5 => (intro w hSw; (try dsimp only at hSw); (try (go_split_ands)); go_simp; try with_reducible rfl)
  try simp only [Act.put, List.setIfInBounds_toArray, List.set_cons_zero, List.set_cons_succ]
  refine wpAnyH_take (i := 5) (oi := { dst := some 57, op := Op.pick (Operand.tmp 54) (Operand.tmp 56) (Operand.const (Value.bool false)), type := 4, pos := "law.go:97", after := #[{ on := 2, ground := Ground.data }, { on := 4, ground := Ground.data }], guard := none }) (v := ?v6) rfl (by kernel_rfl) (by kernel_rfl) (by kernel_rfl) (fun _ _ _ h => h) (Or.inl ⟨by rfl, ?y6⟩) (by assumption) ?r6
  case y6 => (intro w hSw; (try dsimp only at hSw); (try (go_split_ands)); go_simp; try with_reducible rfl)
  try simp only [Act.put, List.setIfInBounds_toArray, List.set_cons_zero, List.set_cons_succ]
  refine wpAnyH_take (i := 6) (oi := { dst := some 58, op := Op.move (Operand.tmp 57), type := 4, pos := "law.go:97", after := #[{ on := 5, ground := Ground.data }, { on := 2, ground := Ground.chain }], guard := none }) (v := ?v7) rfl (by kernel_rfl) (by kernel_rfl) (by kernel_rfl) (fun _ _ _ h => h) (Or.inl ⟨by rfl, ?y7⟩) (by assumption) ?r7
  case y7 => (intro w hSw; (try dsimp only at hSw); (try (go_split_ands)); go_simp; try with_reducible rfl)
  try simp only [Act.put, List.setIfInBounds_toArray, List.set_cons_zero, List.set_cons_succ]
  refine wpAnyH_take (i := 7) (oi := { dst := some 59, op := Op.move (Operand.tmp 11), type := 28, pos := "law.go:97", after := #[{ on := 6, ground := Ground.guard }], guard := some (6, true) }) (v := ?v8) rfl (by kernel_rfl) (by kernel_rfl) (by kernel_rfl) (fun _ _ _ h => h) (Or.inl ⟨by rfl, ?y8⟩) (by assumption) ?r8
  case y8 => (intro w hSw; (try dsimp only at hSw); (try (go_split_ands)); go_simp; try with_reducible rfl)
  try simp only [Act.put, List.setIfInBounds_toArray, List.set_cons_zero, List.set_cons_succ]
  refine wpAnyH_take (i := 8) (oi := { dst := some 60, op := Op.binOp BinOp.eql 28 (Operand.tmp 59) (Operand.const (Value.int IntKind.i64 0)) 28, type := 4, pos := "law.go:97", after := #[{ on := 7, ground := Ground.data }, { on := 6, ground := Ground.guard }], guard := some (6, true) }) (v := ?v9) rfl (by kernel_rfl) (by kernel_rfl) (by kernel_rfl) (fun _ _ _ h => h) (Or.inl ⟨by rfl, ?y9⟩) (by assumption) ?r9
  case y9 => (intro w hSw; (try dsimp only at hSw); (try (go_split_ands)); go_simp; try with_reducible rfl)
  try simp only [Act.put, List.setIfInBounds_toArray, List.set_cons_zero, List.set_cons_succ]
  refine wpAnyH_take (i := 9) (oi := { dst := some 61, op := Op.pick (Operand.tmp 58) (Operand.tmp 60) (Operand.const (Value.bool false)), type := 4, pos := "law.go:97", after := #[{ on := 6, ground := Ground.data }, { on := 8, ground := Ground.data }], guard := none }) (v := ?v10) rfl (by kernel_rfl) (by kernel_rfl) (by kernel_rfl) (fun _ _ _ h => h) (Or.inl ⟨by rfl, ?y10⟩) (by assumption) ?r10
  case y10 => (intro w hSw; (try dsimp only at hSw); (try (go_split_ands)); go_simp; try with_reducible rfl)
  try simp only [Act.put, List.setIfInBounds_toArray, List.set_cons_zero, List.set_cons_succ]
  refine wpAnyH_take (i := 10) (oi := { dst := some 62, op := Op.move (Operand.tmp 61), type := 4, pos := "law.go:97", after := #[{ on := 9, ground := Ground.data }, { on := 6, ground := Ground.chain }], guard := none }) (v := ?v11) rfl (by kernel_rfl) (by kernel_rfl) (by kernel_rfl) (fun _ _ _ h => h) (Or.inl ⟨by rfl, ?y11⟩) (by assumption) ?r11
  case y11 => (intro w hSw; (try dsimp only at hSw); (try (go_split_ands)); go_simp; try with_reducible rfl)
  try simp only [Act.put, List.setIfInBounds_toArray, List.set_cons_zero, List.set_cons_succ]
  refine wpAnyH_take (i := 11) (oi := { dst := some 63, op := Op.load 55 (Operand.tmp 10), type := 55, pos := "law.go:97", after := #[{ on := 10, ground := Ground.guard }], guard := some (10, true) }) (v := _) rfl (by kernel_rfl) (by kernel_rfl) (by kernel_rfl) (fun _ _ _ h => h) (yieldsIf_load_row rfl 55 _ rfl w7.heap.size rfl 55 _ _ _ (fun W h => heap_kept h.1 HJ8.out) Tryd.underlying55 rfl (bpSize _)) (by assumption) ?_
  try simp only [Act.put, List.setIfInBounds_toArray, List.set_cons_zero, List.set_cons_succ]
  refine wpAnyH_take (i := 12) (oi := { dst := some 64, op := Op.load 55 (Operand.tmp 2), type := 55, pos := "law.go:97", after := #[{ on := 10, ground := Ground.guard }], guard := some (10, true) }) (v := _) rfl (by kernel_rfl) (by kernel_rfl) (by kernel_rfl) (fun _ _ _ h => h) (yieldsIf_load_row rfl 55 _ rfl w.heap.size rfl 55 _ _ _ (fun W h => heap_kept h.1 Hk8.out) Tryd.underlying55 rfl (bpSize _)) (by assumption) ?_
  try simp only [Act.put, List.setIfInBounds_toArray, List.set_cons_zero, List.set_cons_succ]
  refine wpAnyH_take (i := 13) (oi := { dst := some 65, op := Op.binOp BinOp.eql 55 (Operand.tmp 63) (Operand.tmp 64) 55, type := 4, pos := "law.go:97", after := #[{ on := 11, ground := Ground.data }, { on := 12, ground := Ground.data }, { on := 10, ground := Ground.guard }], guard := some (10, true) }) (v := ?v12) rfl (by kernel_rfl) (by kernel_rfl) (by kernel_rfl) (fun _ _ _ h => h) (Or.inl ⟨by rfl, ?y12⟩) (by assumption) ?r12
  case y12 => (intro w hSw; (try dsimp only at hSw); (try (go_split_ands)); go_simp; try with_reducible rfl)
  try simp only [Act.put, List.setIfInBounds_toArray, List.set_cons_zero, List.set_cons_succ]
  refine wpAnyH_take (i := 14) (oi := { dst := some 66, op := Op.pick (Operand.tmp 62) (Operand.tmp 65) (Operand.const (Value.bool false)), type := 4, pos := "law.go:97", after := #[{ on := 10, ground := Ground.data }, { on := 13, ground := Ground.data }], guard := none }) (v := ?v13) rfl (by kernel_rfl) (by kernel_rfl) (by kernel_rfl) (fun _ _ _ h => h) (Or.inl ⟨by rfl, ?y13⟩) (by assumption) ?r13
  case y13 => (intro w hSw; (try dsimp only at hSw); (try (go_split_ands)); go_simp; try with_reducible rfl)
  try simp only [Act.put, List.setIfInBounds_toArray, List.set_cons_zero, List.set_cons_succ]
  refine wpAnyH_take (i := 15) (oi := { dst := some 67, op := Op.move (Operand.tmp 66), type := 4, pos := "law.go:97", after := #[{ on := 14, ground := Ground.data }, { on := 10, ground := Ground.chain }], guard := none }) (v := ?v14) rfl (by kernel_rfl) (by kernel_rfl) (by kernel_rfl) (fun _ _ _ h => h) (Or.inl ⟨by rfl, ?y14⟩) (by assumption) ?r14
  case y14 => (intro w hSw; (try dsimp only at hSw); (try (go_split_ands)); go_simp; try with_reducible rfl)
  try simp only [Act.put, List.setIfInBounds_toArray, List.set_cons_zero, List.set_cons_succ]
  refine wpAnyH_take (i := 16) (oi := { dst := some 68, op := Op.fieldAddr 27 (Operand.tmp 7) 1, type := 0, pos := "law.go:97", after := #[{ on := 15, ground := Ground.guard }], guard := some (15, true) }) (v := ?v15) rfl (by kernel_rfl) (by kernel_rfl) (by kernel_rfl) (fun _ _ _ h => h) (Or.inl ⟨by rfl, ?y15⟩) (by assumption) ?r15
  case y15 => (intro w hSw; (try dsimp only at hSw); (try (go_split_ands)); go_simp; try with_reducible rfl)
  try simp only [Act.put, List.setIfInBounds_toArray, List.set_cons_zero, List.set_cons_succ]
  refine wpAnyH_take (i := 17) (oi := { dst := some 69, op := Op.load 25 (Operand.tmp 68), type := 25, pos := "law.go:97", after := #[{ on := 16, ground := Ground.data }, { on := 15, ground := Ground.guard }], guard := some (15, true) }) (v := _) rfl (by kernel_rfl) (by kernel_rfl) (by kernel_rfl) (fun _ _ _ h => h) (yieldsIf_load rfl 25 (.tmp 68) rfl (.pointer (some ⟨w5.heap.size, 6, none⟩)) (.agg (mac6 s0 s1 s2 s3 s4 s5)) rfl (fun W h => load_src (heap_kept h.1 HK8.out))) (by assumption) ?_
  try simp only [Act.put, List.setIfInBounds_toArray, List.set_cons_zero, List.set_cons_succ]
  refine wpAnyH_take (i := 18) (oi := { dst := some 70, op := Op.load 25 (Operand.tmp 3), type := 25, pos := "law.go:97", after := #[{ on := 15, ground := Ground.guard }], guard := some (15, true) }) (v := _) rfl (by kernel_rfl) (by kernel_rfl) (by kernel_rfl) (fun _ _ _ h => h) (yieldsIf_load rfl 25 (.tmp 3) rfl (.pointer (some ⟨w.heap.size + 1, 0, none⟩)) (.agg (mac6 s0 s1 s2 s3 s4 s5)) rfl (fun W h => mac_range (heap_kept h.1 Hm8.out))) (by assumption) ?_
  try simp only [Act.put, List.setIfInBounds_toArray, List.set_cons_zero, List.set_cons_succ]
  refine wpAnyH_take (i := 19) (oi := { dst := some 71, op := Op.binOp BinOp.eql 25 (Operand.tmp 69) (Operand.tmp 70) 25, type := 4, pos := "law.go:97", after := #[{ on := 17, ground := Ground.data }, { on := 18, ground := Ground.data }, { on := 15, ground := Ground.guard }], guard := some (15, true) }) (v := ?v16) rfl (by kernel_rfl) (by kernel_rfl) (by kernel_rfl) (fun _ _ _ h => h) (Or.inl ⟨by rfl, ?y16⟩) (by assumption) ?r16
  case y16 => (intro w hSw; (try dsimp only at hSw); (try (go_split_ands)); go_simp; try with_reducible rfl)
  try simp only [Act.put, List.setIfInBounds_toArray, List.set_cons_zero, List.set_cons_succ]
  refine wpAnyH_take (i := 20) (oi := { dst := some 72, op := Op.pick (Operand.tmp 67) (Operand.tmp 71) (Operand.const (Value.bool false)), type := 4, pos := "law.go:97", after := #[{ on := 15, ground := Ground.data }, { on := 19, ground := Ground.data }], guard := none }) (v := ?v17) rfl (by kernel_rfl) (by kernel_rfl) (by kernel_rfl) (fun _ _ _ h => h) (Or.inl ⟨by rfl, ?y17⟩) (by assumption) ?r17
  case y17 => (intro w hSw; (try dsimp only at hSw); (try (go_split_ands)); go_simp; try with_reducible rfl)
  try simp only [Act.put, List.setIfInBounds_toArray, List.set_cons_zero, List.set_cons_succ]
  refine wpAnyH_take (i := 21) (oi := { dst := some 73, op := Op.move (Operand.tmp 72), type := 4, pos := "law.go:97", after := #[{ on := 20, ground := Ground.data }, { on := 15, ground := Ground.chain }], guard := none }) (v := ?v18) rfl (by kernel_rfl) (by kernel_rfl) (by kernel_rfl) (fun _ _ _ h => h) (Or.inl ⟨by rfl, ?y18⟩) (by assumption) ?r18
  case y18 => (intro w hSw; (try dsimp only at hSw); (try (go_split_ands)); go_simp; try with_reducible rfl)
  try simp only [Act.put, List.setIfInBounds_toArray, List.set_cons_zero, List.set_cons_succ]
  refine wpAnyH_take (i := 22) (oi := { dst := some 74, op := Op.fieldAddr 27 (Operand.tmp 7) 0, type := 0, pos := "law.go:97", after := #[{ on := 21, ground := Ground.guard }], guard := some (21, true) }) (v := ?v19) rfl (by kernel_rfl) (by kernel_rfl) (by kernel_rfl) (fun _ _ _ h => h) (Or.inl ⟨by rfl, ?y19⟩) (by assumption) ?r19
  case y19 => (intro w hSw; (try dsimp only at hSw); (try (go_split_ands)); go_simp; try with_reducible rfl)
  try simp only [Act.put, List.setIfInBounds_toArray, List.set_cons_zero, List.set_cons_succ]
  refine wpAnyH_take (i := 23) (oi := { dst := some 75, op := Op.load 25 (Operand.tmp 74), type := 25, pos := "law.go:97", after := #[{ on := 22, ground := Ground.data }, { on := 21, ground := Ground.guard }], guard := some (21, true) }) (v := _) rfl (by kernel_rfl) (by kernel_rfl) (by kernel_rfl) (fun _ _ _ h => h) (yieldsIf_load rfl 25 (.tmp 74) rfl (.pointer (some ⟨w5.heap.size, 0, none⟩)) (.agg (mac6 1 128 194 0 0 0)) rfl (fun W h => load_dst (heap_kept h.1 HK8.out))) (by assumption) ?_
  try simp only [Act.put, List.setIfInBounds_toArray, List.set_cons_zero, List.set_cons_succ]
  refine wpAnyH_ready (rs := [24]) (by kernel_rfl) (by simp) ?_
  refine AllReadyH.cons (o := { dst := some 76, op := Op.call { callee := Callee.value (Operand.func 34), args := #[], argTypes := #[] }, type := 25, pos := "law.go:97", after := #[{ on := 21, ground := Ground.chain }, { on := 21, ground := Ground.guard }], guard := some (21, true) }) rfl (fun K hK => ?_) AllReadyH.nil
  go_simp
  refine (BGroup_any _).mono ?_
  rintro e w9 ⟨rfl, hb9⟩
  have hg9 := hide (HD.out.later hb9)
  clear hb9
  go_wp2_with fail
  refine hK.out _ _ ?_ (fun hHeld24 => ?_)
  · exact HS.out _ hg9.out
  clear hK K
  try simp only [Act.put, List.setIfInBounds_toArray, List.set_cons_zero, List.set_cons_succ]
  refine wpAnyH_take (i := 25) (oi := { dst := some 77, op := Op.binOp BinOp.eql 25 (Operand.tmp 75) (Operand.tmp 76) 25, type := 4, pos := "law.go:97", after := #[{ on := 23, ground := Ground.data }, { on := 24, ground := Ground.data }, { on := 21, ground := Ground.guard }], guard := some (21, true) }) (v := ?v20) rfl (by kernel_rfl) (by kernel_rfl) (by kernel_rfl) (fun _ _ _ h => h) (Or.inl ⟨by rfl, ?y20⟩) (by assumption) ?r20
  case y20 => (intro w hSw; (try dsimp only at hSw); (try (go_split_ands)); go_simp; try with_reducible rfl)
  try simp only [Act.put, List.setIfInBounds_toArray, List.set_cons_zero, List.set_cons_succ]
  refine wpAnyH_take (i := 26) (oi := { dst := some 78, op := Op.pick (Operand.tmp 73) (Operand.tmp 77) (Operand.const (Value.bool false)), type := 4, pos := "law.go:97", after := #[{ on := 21, ground := Ground.data }, { on := 25, ground := Ground.data }], guard := none }) (v := ?v21) rfl (by kernel_rfl) (by kernel_rfl) (by kernel_rfl) (fun _ _ _ h => h) (Or.inl ⟨by rfl, ?y21⟩) (by assumption) ?r21
  case y21 => (intro w hSw; (try dsimp only at hSw); (try (go_split_ands)); go_simp; try with_reducible rfl)
  try simp only [Act.put, List.setIfInBounds_toArray, List.set_cons_zero, List.set_cons_succ]
  refine wpAnyH_take (i := 27) (oi := { dst := some 79, op := Op.move (Operand.tmp 78), type := 4, pos := "law.go:97", after := #[{ on := 26, ground := Ground.data }, { on := 24, ground := Ground.chain }], guard := none }) (v := ?v22) rfl (by kernel_rfl) (by kernel_rfl) (by kernel_rfl) (fun _ _ _ h => h) (Or.inl ⟨by rfl, ?y22⟩) (by assumption) ?r22
  case y22 => (intro w hSw; (try dsimp only at hSw); (try (go_split_ands)); go_simp; try with_reducible rfl)
  try simp only [Act.put, List.setIfInBounds_toArray, List.set_cons_zero, List.set_cons_succ]
  refine wpAnyH_take (i := 28) (oi := { dst := some 80, op := Op.fieldAddr 27 (Operand.tmp 7) 7, type := 0, pos := "law.go:97", after := #[{ on := 27, ground := Ground.guard }], guard := some (27, true) }) (v := ?v23) rfl (by kernel_rfl) (by kernel_rfl) (by kernel_rfl) (fun _ _ _ h => h) (Or.inl ⟨by rfl, ?y23⟩) (by assumption) ?r23
  case y23 => (intro w hSw; (try dsimp only at hSw); (try (go_split_ands)); go_simp; try with_reducible rfl)
  try simp only [Act.put, List.setIfInBounds_toArray, List.set_cons_zero, List.set_cons_succ]
  refine wpAnyH_take (i := 29) (oi := { dst := some 81, op := Op.load 4 (Operand.tmp 80), type := 4, pos := "law.go:97", after := #[{ on := 28, ground := Ground.data }, { on := 27, ground := Ground.guard }], guard := some (27, true) }) (v := ?v24) rfl (by kernel_rfl) (by kernel_rfl) (by kernel_rfl) (fun _ _ _ h => h) (Or.inl ⟨by rfl, ?y24⟩) (by assumption) ?r24
  case y24 => (intro w hSw; (try dsimp only at hSw); (try (go_split_ands)); go_simp; try with_reducible rfl)
  try simp only [Act.put, List.setIfInBounds_toArray, List.set_cons_zero, List.set_cons_succ]
  refine wpAnyH_take (i := 30) (oi := { dst := some 82, op := Op.pick (Operand.tmp 79) (Operand.tmp 81) (Operand.const (Value.bool false)), type := 4, pos := "law.go:97", after := #[{ on := 27, ground := Ground.data }, { on := 29, ground := Ground.data }], guard := none }) (v := ?v25) rfl (by kernel_rfl) (by kernel_rfl) (by kernel_rfl) (fun _ _ _ h => h) (Or.inl ⟨by rfl, ?y25⟩) (by assumption) ?r25
  case y25 => (intro w hSw; (try dsimp only at hSw); (try (go_split_ands)); go_simp; try with_reducible rfl)
  try simp only [Act.put, List.setIfInBounds_toArray, List.set_cons_zero, List.set_cons_succ]
  refine wpAnyH_take (i := 31) (oi := { dst := some 83, op := Op.move (Operand.tmp 82), type := 4, pos := "law.go:97", after := #[{ on := 30, ground := Ground.data }, { on := 27, ground := Ground.chain }], guard := none }) (v := ?v26) rfl (by kernel_rfl) (by kernel_rfl) (by kernel_rfl) (fun _ _ _ h => h) (Or.inl ⟨by rfl, ?y26⟩) (by assumption) ?r26
  case y26 => (intro w hSw; (try dsimp only at hSw); (try (go_split_ands)); go_simp; try with_reducible rfl)
  try simp only [Act.put, List.setIfInBounds_toArray, List.set_cons_zero, List.set_cons_succ]
  refine wpAnyH_take (i := 32) (oi := { dst := some 84, op := Op.fieldAddr 27 (Operand.tmp 7) 2, type := 0, pos := "law.go:97", after := #[{ on := 31, ground := Ground.guard }], guard := some (31, true) }) (v := ?v27) rfl (by kernel_rfl) (by kernel_rfl) (by kernel_rfl) (fun _ _ _ h => h) (Or.inl ⟨by rfl, ?y27⟩) (by assumption) ?r27
  case y27 => (intro w hSw; (try dsimp only at hSw); (try (go_split_ands)); go_simp; try with_reducible rfl)
  try simp only [Act.put, List.setIfInBounds_toArray, List.set_cons_zero, List.set_cons_succ]
  refine wpAnyH_take (i := 33) (oi := { dst := some 85, op := Op.load 4 (Operand.tmp 84), type := 4, pos := "law.go:97", after := #[{ on := 32, ground := Ground.data }, { on := 31, ground := Ground.guard }], guard := some (31, true) }) (v := ?v28) rfl (by kernel_rfl) (by kernel_rfl) (by kernel_rfl) (fun _ _ _ h => h) (Or.inl ⟨by rfl, ?y28⟩) (by assumption) ?r28
  case y28 => (intro w hSw; (try dsimp only at hSw); (try (go_split_ands)); go_simp; try with_reducible rfl)
  try simp only [Act.put, List.setIfInBounds_toArray, List.set_cons_zero, List.set_cons_succ]
  refine wpAnyH_take (i := 34) (oi := { dst := some 86, op := Op.unOp UnOp.not 4 (Operand.tmp 85), type := 4, pos := "law.go:97", after := #[{ on := 33, ground := Ground.data }, { on := 31, ground := Ground.guard }], guard := some (31, true) }) (v := ?v29) rfl (by kernel_rfl) (by kernel_rfl) (by kernel_rfl) (fun _ _ _ h => h) (Or.inl ⟨by rfl, ?y29⟩) (by assumption) ?r29
  case y29 => (intro w hSw; (try dsimp only at hSw); (try (go_split_ands)); go_simp; try with_reducible rfl)
  try simp only [Act.put, List.setIfInBounds_toArray, List.set_cons_zero, List.set_cons_succ]
  refine wpAnyH_take (i := 35) (oi := { dst := some 87, op := Op.pick (Operand.tmp 83) (Operand.tmp 86) (Operand.const (Value.bool false)), type := 4, pos := "law.go:97", after := #[{ on := 31, ground := Ground.data }, { on := 34, ground := Ground.data }], guard := none }) (v := ?v30) rfl (by kernel_rfl) (by kernel_rfl) (by kernel_rfl) (fun _ _ _ h => h) (Or.inl ⟨by rfl, ?y30⟩) (by assumption) ?r30
  case y30 => (intro w hSw; (try dsimp only at hSw); (try (go_split_ands)); go_simp; try with_reducible rfl)
  try simp only [Act.put, List.setIfInBounds_toArray, List.set_cons_zero, List.set_cons_succ]
  refine wpAnyH_take (i := 36) (oi := { dst := some 88, op := Op.move (Operand.tmp 87), type := 4, pos := "law.go:97", after := #[{ on := 35, ground := Ground.data }, { on := 31, ground := Ground.chain }], guard := none }) (v := ?v31) rfl (by kernel_rfl) (by kernel_rfl) (by kernel_rfl) (fun _ _ _ h => h) (Or.inl ⟨by rfl, ?y31⟩) (by assumption) ?r31
  case y31 => (intro w hSw; (try dsimp only at hSw); (try (go_split_ands)); go_simp; try with_reducible rfl)
  try simp only [Act.put, List.setIfInBounds_toArray, List.set_cons_zero, List.set_cons_succ]
  refine wpAnyH_take (i := 37) (oi := { dst := some 89, op := Op.move (Operand.tmp 5), type := 22, pos := "law.go:97", after := #[{ on := 36, ground := Ground.guard }], guard := some (36, true) }) (v := ?v32) rfl (by kernel_rfl) (by kernel_rfl) (by kernel_rfl) (fun _ _ _ h => h) (Or.inl ⟨by rfl, ?y32⟩) (by assumption) ?r32
  case y32 => (intro w hSw; (try dsimp only at hSw); (try (go_split_ands)); go_simp; try with_reducible rfl)
  try simp only [Act.put, List.setIfInBounds_toArray, List.set_cons_zero, List.set_cons_succ]
  refine wpAnyH_take (i := 38) (oi := { dst := some 90, op := Op.call { callee := Callee.builtin Builtin.len, args := #[Operand.tmp 89], argTypes := #[22] }, type := 3, pos := "law.go:97", after := #[{ on := 37, ground := Ground.data }, { on := 36, ground := Ground.guard }], guard := some (36, true) }) (v := ?v33) rfl (by kernel_rfl) (by kernel_rfl) (by kernel_rfl) (fun _ _ _ h => h) (Or.inl ⟨by rfl, ?y33⟩) (by assumption) ?r33
  case y33 => (intro w hSw; (try dsimp only at hSw); (try (go_split_ands)); go_simp; try with_reducible rfl)
  try simp only [Act.put, List.setIfInBounds_toArray, List.set_cons_zero, List.set_cons_succ]
  refine wpAnyH_take (i := 39) (oi := { dst := some 91, op := Op.binOp BinOp.eql 3 (Operand.tmp 90) (Operand.const (Value.int IntKind.i64 64)) 3, type := 4, pos := "law.go:97", after := #[{ on := 38, ground := Ground.data }, { on := 36, ground := Ground.guard }], guard := some (36, true) }) (v := ?v34) rfl (by kernel_rfl) (by kernel_rfl) (by kernel_rfl) (fun _ _ _ h => h) (Or.inl ⟨by rfl, ?y34⟩) (by assumption) ?r34
  case y34 => (intro w hSw; (try dsimp only at hSw); (try (go_split_ands)); go_simp; try with_reducible rfl)
  try simp only [Act.put, List.setIfInBounds_toArray, List.set_cons_zero, List.set_cons_succ]
  refine wpAnyH_take (i := 40) (oi := { dst := some 92, op := Op.pick (Operand.tmp 88) (Operand.tmp 91) (Operand.const (Value.bool false)), type := 4, pos := "law.go:97", after := #[{ on := 36, ground := Ground.data }, { on := 39, ground := Ground.data }], guard := none }) (v := ?v35) rfl (by kernel_rfl) (by kernel_rfl) (by kernel_rfl) (fun _ _ _ h => h) (Or.inl ⟨by rfl, ?y35⟩) (by assumption) ?r35
  case y35 => (intro w hSw; (try dsimp only at hSw); (try (go_split_ands)); go_simp; try with_reducible rfl)
  try simp only [Act.put, List.setIfInBounds_toArray, List.set_cons_zero, List.set_cons_succ]
  refine wpAnyH_take (i := 41) (oi := { dst := some 4, op := Op.assign (Operand.tmp 92), type := 4, pos := "law.go:97", after := #[{ on := 40, ground := Ground.data }, { on := 36, ground := Ground.chain }, { on := 0, ground := Ground.phase }, { on := 1, ground := Ground.phase }, { on := 2, ground := Ground.phase }, { on := 3, ground := Ground.phase }, { on := 4, ground := Ground.phase }, { on := 5, ground := Ground.phase }, { on := 6, ground := Ground.phase }, { on := 7, ground := Ground.phase }, { on := 8, ground := Ground.phase }, { on := 9, ground := Ground.phase }, { on := 10, ground := Ground.phase }, { on := 11, ground := Ground.phase }, { on := 12, ground := Ground.phase }, { on := 13, ground := Ground.phase }, { on := 14, ground := Ground.phase }, { on := 15, ground := Ground.phase }, { on := 16, ground := Ground.phase }, { on := 17, ground := Ground.phase }, { on := 18, ground := Ground.phase }, { on := 19, ground := Ground.phase }, { on := 20, ground := Ground.phase }, { on := 21, ground := Ground.phase }, { on := 22, ground := Ground.phase }, { on := 23, ground := Ground.phase }, { on := 24, ground := Ground.phase }, { on := 25, ground := Ground.phase }, { on := 26, ground := Ground.phase }, { on := 27, ground := Ground.phase }, { on := 28, ground := Ground.phase }, { on := 29, ground := Ground.phase }, { on := 30, ground := Ground.phase }, { on := 31, ground := Ground.phase }, { on := 32, ground := Ground.phase }, { on := 33, ground := Ground.phase }, { on := 34, ground := Ground.phase }, { on := 35, ground := Ground.phase }, { on := 36, ground := Ground.phase }, { on := 37, ground := Ground.phase }, { on := 38, ground := Ground.phase }, { on := 39, ground := Ground.phase }, { on := 40, ground := Ground.phase }], guard := none }) (v := ?v36) rfl (by kernel_rfl) (by kernel_rfl) (by kernel_rfl) (fun _ _ _ h => h) (Or.inl ⟨by rfl, ?y36⟩) (by assumption) ?r36
  case y36 => (intro w hSw; (try dsimp only at hSw); (try (go_split_ands)); go_simp; try with_reducible rfl)
  try simp only [Act.put, List.setIfInBounds_toArray, List.set_cons_zero, List.set_cons_succ]
  refine wpAnyH_done (by kernel_rfl) ?_ _
  refine NoPanic.normal ?_
  go_wp2
  go_ret
  exact ⟨rfl, hW8.out.later hg9.out⟩
theorem BFrames_walk (b : Bp) (s0 s1 s2 s3 s4 s5 : Int) (w : World) (hT : Tab w) (hW : b.wf) (hs : Byte [s0, s1, s2, s3, s4, s5]) :
    Calls Tryd.prog 14 #[.agg b.row, .agg (mac6 s0 s1 s2 s3 s4 s5)] w fun e w' => e = .returned (.bool true) ∧ Below w.heap.size w w' := by
  by_cases hE : bcheckE b = 0
  · by_cases ho : s0 % 2 = 1
    · exact BF_group b s0 s1 s2 s3 s4 s5 w hT hW hE hs ho
    · exact BF_ok b s0 s1 s2 s3 s4 s5 w hT hW hE hs ho
  · exact BF_bad b s0 s1 s2 s3 s4 s5 w hT hW hE hs
end Go.Proofs.YtiimppbfigikfaaDoor
