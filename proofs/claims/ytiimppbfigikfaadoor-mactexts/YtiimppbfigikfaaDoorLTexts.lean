/-
  The statement MacTexts, walked. Condition: the table lies as the program's text lays it ('Tab').
-/
import Derived.Test.YtiimppbfigikfaaDoorMacF
import Derived.Test.YtiimppbfigikfaaDoorFlat
namespace Go.Proofs.YtiimppbfigikfaaDoor
open Go.RowKit
set_option linter.unusedVariables false

theorem hexd_inj {a b : Int} (ha : 0 ≤ a ∧ a < 16) (hb : 0 ≤ b ∧ b < 16) (h : hexd a = hexd b) : a = b := by
  unfold hexd at h
  split at h <;> split at h <;> omega
theorem text_inj (a0 a1 a2 a3 a4 a5 b0 b1 b2 b3 b4 b5 : Int) (hA : Byte [a0, a1, a2, a3, a4, a5]) (hB : Byte [b0, b1, b2, b3, b4, b5]) (h : textTo [a0, a1, a2, a3, a4, a5] 6 = textTo [b0, b1, b2, b3, b4, b5] 6) : [a0, a1, a2, a3, a4, a5] = [b0, b1, b2, b3, b4, b5] := by
  have one : ∀ x y : Int, (0 ≤ x ∧ x ≤ 255) → (0 ≤ y ∧ y ≤ 255) → hexd (x / 16) = hexd (y / 16) → hexd (x % 16) = hexd (y % 16) → x = y := by
    intro x y hx hy h1 h2
    have e1 := hexd_inj (by omega) (by omega) h1
    have e2 := hexd_inj (by omega) (by omega) h2
    omega
  simp [textTo, hexB] at h
  obtain ⟨h0, h0', h1, h1', h2, h2', h3, h3', h4, h4', h5, h5'⟩ := h
  rw [one a0 b0 (hA _ (by simp)) (hB _ (by simp)) h0 h0', one a1 b1 (hA _ (by simp)) (hB _ (by simp)) h1 h1', one a2 b2 (hA _ (by simp)) (hB _ (by simp)) h2 h2', one a3 b3 (hA _ (by simp)) (hB _ (by simp)) h3 h3', one a4 b4 (hA _ (by simp)) (hB _ (by simp)) h4 h4', one a5 b5 (hA _ (by simp)) (hB _ (by simp)) h5 h5']
theorem bstr_size (l : List Int) : (bstr l).size = l.length := by simp [bstr, ByteArray.size]

set_option maxRecDepth 20000 in
theorem Texts_walk (a0 a1 a2 a3 a4 a5 b0 b1 b2 b3 b4 b5 : Int) (w : World) (hT : Tab w) (hA : Byte [a0, a1, a2, a3, a4, a5]) (hB : Byte [b0, b1, b2, b3, b4, b5]) :
    Calls Tryd.prog 8 #[.agg (mac6 a0 a1 a2 a3 a4 a5), .agg (mac6 b0 b1 b2 b3 b4 b5)] w fun e w' => e = .returned (.bool true) ∧ Below w.heap.size w w' := by
  have HT := hide hT
  have hF := hide (fun w hT => frames_any w hT)
  have ha0 : 0 ≤ a0 ∧ a0 ≤ 255 := hA a0 (by simp)
  have hTa := hide (fun w => Text_any a0 a1 a2 a3 a4 a5 w hA)
  have hTb := hide (fun w => Text_any b0 b1 b2 b3 b4 b5 w hB)
  have hG := hide (fun w => Group_any a0 a1 a2 a3 a4 a5 w ha0)
  have hmeq := fun w => mac_eql a0 a1 a2 a3 a4 a5 b0 b1 b2 b3 b4 b5 hA hB w
  have hgd := eqGuard_mac
  obtain ⟨sA, hsA⟩ : ∃ s, s = bstr (textTo [a0, a1, a2, a3, a4, a5] 6) := ⟨_, rfl⟩
  obtain ⟨sB, hsB⟩ : ∃ s, s = bstr (textTo [b0, b1, b2, b3, b4, b5] 6) := ⟨_, rfl⟩
  have hszA : sA.size = 17 := by rw [hsA, bstr_size, textTo_length]; rfl
  have hse : (sA.toList == sB.toList) = decide ([a0, a1, a2, a3, a4, a5] = [b0, b1, b2, b3, b4, b5]) := by
    rw [Bool.eq_iff_iff, beq_iff_eq, decide_eq_true_eq, hsA, hsB, ByteArray.toList_eq, ByteArray.toList_eq]
    constructor
    · intro h
      refine text_inj _ _ _ _ _ _ _ _ _ _ _ _ hA hB (bstr_inj (textTo_byte _ hA 6) (textTo_byte _ hB 6) ?_)
      have : (bstr (textTo [a0, a1, a2, a3, a4, a5] 6)).data = (bstr (textTo [b0, b1, b2, b3, b4, b5] 6)).data := Array.toList_inj.1 h
      cases ha : bstr (textTo [a0, a1, a2, a3, a4, a5] 6); cases hb : bstr (textTo [b0, b1, b2, b3, b4, b5] 6); simp_all
    · intro h; rw [h]
  rw [← hsA] at hTa
  rw [← hsB] at hTb
  generalize hE : decide ([a0, a1, a2, a3, a4, a5] = [b0, b1, b2, b3, b4, b5]) = E at *
  have hAl := heap_alloc2_old w (.cells (mac6 a0 a1 a2 a3 a4 a5) 25) (.cells (mac6 b0 b1 b2 b3 b4 b5) 25)
  have hBl := heap_alloc2_new w (.cells (mac6 a0 a1 a2 a3 a4 a5) 25) (.cells (mac6 b0 b1 b2 b3 b4 b5) 25)
  have hb0 : Below w.heap.size w ((w.alloc (.cells (mac6 a0 a1 a2 a3 a4 a5) 25)).alloc (.cells (mac6 b0 b1 b2 b3 b4 b5) 25)) := (below1 _ _).later (below1 _ _)
  clear hT hA hB hsA hsB hE
  go_enter Tryd.func8, Tryd.ntmps8
  go_wp2_with fail
  refine (hF.out _ (HT.out.later hb0)).mono ?_
  rintro e w1 ⟨rfl, hb1⟩
  have hA1 := heap_kept hb1 hAl
  have hB1 := heap_kept hb1 hBl
  have hW1 := hide (hb0.later hb1)
  clear hb0 hb1 hAl hBl hF HT
  go_wp2_with fail
  refine wp_region_noPanic ?_
  refine wp_region_held_drew (S := fun W => Below w1.heap.size w1 W) (by kernel_rfl) (below_drewN (Below.refl _ _) 1) (fun hHeld => ?_)
  refine wpAnyH_take (i := 0) (oi := { dst := some 9, op := Op.load 25 (Operand.tmp 2), type := 25, pos := "law.go:142", after := #[], guard := none }) (v := _) rfl (by kernel_rfl) (by kernel_rfl) (by kernel_rfl) (fun _ _ _ h => h) (yieldsIf_load_row rfl 25 _ rfl w.heap.size rfl 25 _ _ _ (fun W h => heap_kept h hA1) Tryd.underlying25 rfl macSize) (by assumption) ?_
  try simp only [Act.put, List.setIfInBounds_toArray, List.set_cons_zero, List.set_cons_succ]
  refine wpAnyH_take (i := 2) (oi := { dst := some 11, op := Op.load 25 (Operand.tmp 3), type := 25, pos := "law.go:142", after := #[], guard := none }) (v := _) rfl (by kernel_rfl) (by kernel_rfl) (by kernel_rfl) (fun _ _ _ h => h) (yieldsIf_load_row rfl 25 _ rfl (w.heap.size + 1) rfl 25 _ _ _ (fun W h => heap_kept h hB1) Tryd.underlying25 rfl macSize) (by assumption) ?_
  try simp only [Act.put, List.setIfInBounds_toArray, List.set_cons_zero, List.set_cons_succ]
  refine wpAnyH_ready (rs := [1]) (by kernel_rfl) (by simp) ?_
  refine AllReadyH.cons (o := { dst := some 10, op := Op.call { callee := Callee.value (Operand.func 26), args := #[Operand.tmp 9], argTypes := #[25] }, type := 9, pos := "law.go:142", after := #[{ on := 0, ground := Ground.data }], guard := none }) rfl (fun K hK => ?_) AllReadyH.nil
  go_simp
  refine (hTa.out _).mono ?_
  rintro e w2 ⟨rfl, hb2⟩
  have hb2' : Below w1.heap.size w1 w2 := (below_drewN (Below.refl _ _) 1).later hb2
  go_wp2_with fail
  refine hK.out _ _ ?_ (fun hHeld1 => ?_)
  · exact hb2'
  clear hK K
  try simp only [Act.put, List.setIfInBounds_toArray, List.set_cons_zero, List.set_cons_succ]
  refine wpAnyH_ready (rs := [3]) (by kernel_rfl) (by simp) ?_
  refine AllReadyH.cons (o := { dst := some 12, op := Op.call { callee := Callee.value (Operand.func 26), args := #[Operand.tmp 11], argTypes := #[25] }, type := 9, pos := "law.go:142", after := #[{ on := 2, ground := Ground.data }, { on := 1, ground := Ground.chain }], guard := none }) rfl (fun K hK => ?_) AllReadyH.nil
  go_simp
  refine (hTb.out _).mono ?_
  rintro e w3 ⟨rfl, hb3⟩
  have hb3' : Below w1.heap.size w1 w3 := hb2'.later hb3
  go_wp2_with fail
  refine hK.out _ _ ?_ (fun hHeld3 => ?_)
  · exact hb3'
  clear hK K
  try simp only [Act.put, List.setIfInBounds_toArray, List.set_cons_zero, List.set_cons_succ]
  refine wpAnyH_take (i := 4) (oi := { dst := some 5, op := Op.assign (Operand.tmp 10), type := 9, pos := "law.go:142", after := #[{ on := 1, ground := Ground.data }, { on := 3, ground := Ground.chain }, { on := 0, ground := Ground.phase }, { on := 1, ground := Ground.phase }, { on := 2, ground := Ground.textOnly Departure.lateStores }, { on := 3, ground := Ground.textOnly Departure.lateStoresUnsure }], guard := none }) (v := ?v1) rfl (by kernel_rfl) (by kernel_rfl) (by kernel_rfl) (fun _ _ _ h => h) (Or.inl ⟨by rfl, ?y1⟩) (by assumption) ?r1
  case y1 => (intro w hSw; (try dsimp only at hSw); (try (go_split_ands)); go_simp; try with_reducible rfl)
  try simp only [Act.put, List.setIfInBounds_toArray, List.set_cons_zero, List.set_cons_succ]
  refine wpAnyH_take (i := 5) (oi := { dst := some 6, op := Op.assign (Operand.tmp 12), type := 9, pos := "law.go:142", after := #[{ on := 3, ground := Ground.data }, { on := 4, ground := Ground.chain }, { on := 0, ground := Ground.phase }, { on := 1, ground := Ground.phase }, { on := 2, ground := Ground.phase }, { on := 3, ground := Ground.phase }, { on := 4, ground := Ground.phase }], guard := none }) (v := ?v2) rfl (by kernel_rfl) (by kernel_rfl) (by kernel_rfl) (fun _ _ _ h => h) (Or.inl ⟨by rfl, ?y2⟩) (by assumption) ?r2
  case y2 => (intro w hSw; (try dsimp only at hSw); (try (go_split_ands)); go_simp; try with_reducible rfl)
  try simp only [Act.put, List.setIfInBounds_toArray, List.set_cons_zero, List.set_cons_succ]
  refine wpAnyH_done (by kernel_rfl) ?_ _
  refine NoPanic.normal ?_
  have hA3 := heap_kept hb3' hA1
  have hB3 := heap_kept hb3' hB1
  have hW3 := hide (hW1.out.later hb3')
  clear hb2 hb3 hb2' hb3' hA1 hB1 hHeld hHeld1 hHeld3 hTa hTb hW1
  have c0 : w3.cell? ⟨w.heap.size, 0, none⟩ = some (.int .u8 a0) := (cell_of_row _ _ _ _ _ _ hA3).trans rfl
  go_wp2_with fail
  refine wp_region_noPanic ?_
  refine wp_region_held_drew (S := fun W => Below w3.heap.size w3 W ∧ W.cell? ⟨w.heap.size, 0, none⟩ = some (.int .u8 a0)) (by kernel_rfl) ⟨below_drewN (Below.refl _ _) 1, c0⟩ (fun hHeld => ?_)
  refine wpAnyH_take (i := 0) (oi := { dst := some 13, op := Op.move (Operand.tmp 5), type := 9, pos := "law.go:143", after := #[], guard := none }) (v := ?v3) rfl (by kernel_rfl) (by kernel_rfl) (by kernel_rfl) (fun _ _ _ h => h) (Or.inl ⟨by rfl, ?y3⟩) (by assumption) ?r3
  case y3 => (intro w hSw; (try dsimp only at hSw); (try (go_split_ands)); go_simp; try with_reducible rfl)
  try simp only [Act.put, List.setIfInBounds_toArray, List.set_cons_zero, List.set_cons_succ]
  refine wpAnyH_take (i := 1) (oi := { dst := some 14, op := Op.call { callee := Callee.builtin Builtin.len, args := #[Operand.tmp 13], argTypes := #[9] }, type := 3, pos := "law.go:143", after := #[{ on := 0, ground := Ground.data }], guard := none }) (v := ?v4) rfl (by kernel_rfl) (by kernel_rfl) (by kernel_rfl) (fun _ _ _ h => h) (Or.inl ⟨by rfl, ?y4⟩) (by assumption) ?r4
  case y4 => (intro w hSw; (try dsimp only at hSw); (try (go_split_ands)); go_simp; try with_reducible rfl)
  try simp only [Act.put, List.setIfInBounds_toArray, List.set_cons_zero, List.set_cons_succ]
  refine wpAnyH_take (i := 2) (oi := { dst := some 15, op := Op.binOp BinOp.eql 3 (Operand.tmp 14) (Operand.const (Value.int IntKind.i64 17)) 3, type := 4, pos := "law.go:143", after := #[{ on := 1, ground := Ground.data }], guard := none }) (v := ?v5) rfl (by kernel_rfl) (by kernel_rfl) (by kernel_rfl) (fun _ _ _ h => h) (Or.inl ⟨by rfl, ?y5⟩) (by assumption) ?r5
  case y5 => (intro w hSw; (try dsimp only at hSw); (try (go_split_ands)); go_simp; try with_reducible rfl)
  try simp only [Act.put, List.setIfInBounds_toArray, List.set_cons_zero, List.set_cons_succ]
  refine wpAnyH_take (i := 3) (oi := { dst := some 16, op := Op.move (Operand.tmp 15), type := 4, pos := "law.go:143", after := #[{ on := 2, ground := Ground.data }], guard := none }) (v := ?v6) rfl (by kernel_rfl) (by kernel_rfl) (by kernel_rfl) (fun _ _ _ h => h) (Or.inl ⟨by rfl, ?y6⟩) (by assumption) ?r6
  case y6 => (intro w hSw; (try dsimp only at hSw); (try (go_split_ands)); go_simp; try with_reducible rfl)
  try simp only [Act.put, List.setIfInBounds_toArray, List.set_cons_zero, List.set_cons_succ]
  refine wpAnyH_take (i := 4) (oi := { dst := some 17, op := Op.move (Operand.tmp 5), type := 9, pos := "law.go:143", after := #[{ on := 3, ground := Ground.guard }], guard := some (3, true) }) (v := ?v7) rfl (by kernel_rfl) (by kernel_rfl) (by kernel_rfl) (fun _ _ _ h => h) (Or.inl ⟨by rfl, ?y7⟩) (by assumption) ?r7
  case y7 => (intro w hSw; (try dsimp only at hSw); (try (go_split_ands)); go_simp; try with_reducible rfl)
  try simp only [Act.put, List.setIfInBounds_toArray, List.set_cons_zero, List.set_cons_succ]
  refine wpAnyH_take (i := 5) (oi := { dst := some 18, op := Op.move (Operand.tmp 6), type := 9, pos := "law.go:143", after := #[{ on := 3, ground := Ground.guard }], guard := some (3, true) }) (v := ?v8) rfl (by kernel_rfl) (by kernel_rfl) (by kernel_rfl) (fun _ _ _ h => h) (Or.inl ⟨by rfl, ?y8⟩) (by assumption) ?r8
  case y8 => (intro w hSw; (try dsimp only at hSw); (try (go_split_ands)); go_simp; try with_reducible rfl)
  try simp only [Act.put, List.setIfInBounds_toArray, List.set_cons_zero, List.set_cons_succ]
  refine wpAnyH_take (i := 6) (oi := { dst := some 19, op := Op.binOp BinOp.eql 9 (Operand.tmp 17) (Operand.tmp 18) 9, type := 4, pos := "law.go:143", after := #[{ on := 4, ground := Ground.data }, { on := 5, ground := Ground.data }, { on := 3, ground := Ground.guard }], guard := some (3, true) }) (v := ?v9) rfl (by kernel_rfl) (by kernel_rfl) (by kernel_rfl) (fun _ _ _ h => h) (Or.inl ⟨by rfl, ?y9⟩) (by assumption) ?r9
  case y9 => (intro w hSw; (try dsimp only at hSw); (try (go_split_ands)); go_simp; try with_reducible rfl)
  try simp only [Act.put, List.setIfInBounds_toArray, List.set_cons_zero, List.set_cons_succ]
  refine wpAnyH_take (i := 7) (oi := { dst := some 20, op := Op.load 25 (Operand.tmp 2), type := 25, pos := "law.go:143", after := #[{ on := 3, ground := Ground.guard }], guard := some (3, true) }) (v := _) rfl (by kernel_rfl) (by kernel_rfl) (by kernel_rfl) (fun _ _ _ h => h) (yieldsIf_load_row rfl 25 _ rfl w.heap.size rfl 25 _ _ _ (fun W h => heap_kept h.1 hA3) Tryd.underlying25 rfl macSize) (by assumption) ?_
  try simp only [Act.put, List.setIfInBounds_toArray, List.set_cons_zero, List.set_cons_succ]
  refine wpAnyH_take (i := 8) (oi := { dst := some 21, op := Op.load 25 (Operand.tmp 3), type := 25, pos := "law.go:143", after := #[{ on := 3, ground := Ground.guard }], guard := some (3, true) }) (v := _) rfl (by kernel_rfl) (by kernel_rfl) (by kernel_rfl) (fun _ _ _ h => h) (yieldsIf_load_row rfl 25 _ rfl (w.heap.size + 1) rfl 25 _ _ _ (fun W h => heap_kept h.1 hB3) Tryd.underlying25 rfl macSize) (by assumption) ?_
  try simp only [Act.put, List.setIfInBounds_toArray, List.set_cons_zero, List.set_cons_succ]
  refine wpAnyH_take (i := 9) (oi := { dst := some 22, op := Op.binOp BinOp.eql 25 (Operand.tmp 20) (Operand.tmp 21) 25, type := 4, pos := "law.go:143", after := #[{ on := 7, ground := Ground.data }, { on := 8, ground := Ground.data }, { on := 3, ground := Ground.guard }], guard := some (3, true) }) (v := ?v10) rfl (by kernel_rfl) (by kernel_rfl) (by kernel_rfl) (fun _ _ _ h => h) (Or.inl ⟨by rfl, ?y10⟩) (by assumption) ?r10
  case y10 => (intro w hSw; (try dsimp only at hSw); (try (go_split_ands)); go_simp; try with_reducible rfl)
  try simp only [Act.put, List.setIfInBounds_toArray, List.set_cons_zero, List.set_cons_succ]
  refine wpAnyH_take (i := 10) (oi := { dst := some 23, op := Op.binOp BinOp.eql 4 (Operand.tmp 19) (Operand.tmp 22) 4, type := 4, pos := "law.go:143", after := #[{ on := 6, ground := Ground.data }, { on := 9, ground := Ground.data }, { on := 3, ground := Ground.guard }], guard := some (3, true) }) (v := ?v11) rfl (by kernel_rfl) (by kernel_rfl) (by kernel_rfl) (fun _ _ _ h => h) (Or.inl ⟨by rfl, ?y11⟩) (by assumption) ?r11
  case y11 => (intro w hSw; (try dsimp only at hSw); (try (go_split_ands)); go_simp; try with_reducible rfl)
  try simp only [Act.put, List.setIfInBounds_toArray, List.set_cons_zero, List.set_cons_succ]
  refine wpAnyH_take (i := 11) (oi := { dst := some 24, op := Op.pick (Operand.tmp 16) (Operand.tmp 23) (Operand.const (Value.bool false)), type := 4, pos := "law.go:143", after := #[{ on := 3, ground := Ground.data }, { on := 10, ground := Ground.data }], guard := none }) (v := ?v12) rfl (by kernel_rfl) (by kernel_rfl) (by kernel_rfl) (fun _ _ _ h => h) (Or.inl ⟨by rfl, ?y12⟩) (by assumption) ?r12
  case y12 => (intro w hSw; (try dsimp only at hSw); (try (go_split_ands)); go_simp; try with_reducible rfl)
  try simp only [Act.put, List.setIfInBounds_toArray, List.set_cons_zero, List.set_cons_succ]
  refine wpAnyH_take (i := 12) (oi := { dst := some 25, op := Op.move (Operand.tmp 24), type := 4, pos := "law.go:143", after := #[{ on := 11, ground := Ground.data }, { on := 3, ground := Ground.chain }], guard := none }) (v := ?v13) rfl (by kernel_rfl) (by kernel_rfl) (by kernel_rfl) (fun _ _ _ h => h) (Or.inl ⟨by rfl, ?y13⟩) (by assumption) ?r13
  case y13 => (intro w hSw; (try dsimp only at hSw); (try (go_split_ands)); go_simp; try with_reducible rfl)
  try simp only [Act.put, List.setIfInBounds_toArray, List.set_cons_zero, List.set_cons_succ]
  refine wpAnyH_take (i := 13) (oi := { dst := some 26, op := Op.load 25 (Operand.tmp 2), type := 25, pos := "law.go:143", after := #[{ on := 12, ground := Ground.guard }], guard := some (12, true) }) (v := _) rfl (by kernel_rfl) (by kernel_rfl) (by kernel_rfl) (fun _ _ _ h => h) (yieldsIf_load_row rfl 25 _ rfl w.heap.size rfl 25 _ _ _ (fun W h => heap_kept h.1 hA3) Tryd.underlying25 rfl macSize) (by assumption) ?_
  try simp only [Act.put, List.setIfInBounds_toArray, List.set_cons_zero, List.set_cons_succ]
  refine wpAnyH_take (i := 15) (oi := { dst := some 28, op := Op.indexAddr 25 (Operand.tmp 2) (Operand.const (Value.int IntKind.i64 0)), type := 0, pos := "law.go:143", after := #[{ on := 12, ground := Ground.guard }], guard := some (12, true) }) (v := ?v14) rfl (by kernel_rfl) (by kernel_rfl) (by kernel_rfl) (fun _ _ _ h => h) (Or.inl ⟨by rfl, ?y14⟩) (by assumption) ?r14
  case y14 => (intro w hSw; (try dsimp only at hSw); (try (go_split_ands)); go_simp; try with_reducible rfl)
  try simp only [Act.put, List.setIfInBounds_toArray, List.set_cons_zero, List.set_cons_succ]
  refine wpAnyH_take (i := 16) (oi := { dst := some 29, op := Op.load 5 (Operand.tmp 28), type := 5, pos := "law.go:143", after := #[{ on := 15, ground := Ground.data }, { on := 12, ground := Ground.guard }], guard := some (12, true) }) (v := ?v15) rfl (by kernel_rfl) (by kernel_rfl) (by kernel_rfl) (fun _ _ _ h => h) (Or.inl ⟨by rfl, ?y15⟩) (by assumption) ?r15
  case y15 => (intro w hSw; (try dsimp only at hSw); (try (go_split_ands)); go_simp; try with_reducible rfl)
  try simp only [Act.put, List.setIfInBounds_toArray, List.set_cons_zero, List.set_cons_succ]
  refine wpAnyH_take (i := 17) (oi := { dst := some 30, op := Op.binOp BinOp.rem 5 (Operand.tmp 29) (Operand.const (Value.int IntKind.u8 2)) 5, type := 5, pos := "law.go:143", after := #[{ on := 16, ground := Ground.data }, { on := 12, ground := Ground.guard }], guard := some (12, true) }) (v := ?v16) rfl (by kernel_rfl) (by kernel_rfl) (by kernel_rfl) (fun _ _ _ h => h) (Or.inl ⟨by rfl, ?y16⟩) (by assumption) ?r16
  case y16 => (intro w hSw; (try dsimp only at hSw); (try (go_split_ands)); go_simp; try with_reducible rfl)
  try simp only [Act.put, List.setIfInBounds_toArray, List.set_cons_zero, List.set_cons_succ]
  refine wpAnyH_take (i := 18) (oi := { dst := some 31, op := Op.binOp BinOp.eql 5 (Operand.tmp 30) (Operand.const (Value.int IntKind.u8 1)) 5, type := 4, pos := "law.go:143", after := #[{ on := 17, ground := Ground.data }, { on := 12, ground := Ground.guard }], guard := some (12, true) }) (v := ?v17) rfl (by kernel_rfl) (by kernel_rfl) (by kernel_rfl) (fun _ _ _ h => h) (Or.inl ⟨by rfl, ?y17⟩) (by assumption) ?r17
  case y17 => (intro w hSw; (try dsimp only at hSw); (try (go_split_ands)); go_simp; try with_reducible rfl)
  try simp only [Act.put, List.setIfInBounds_toArray, List.set_cons_zero, List.set_cons_succ]
  refine wpAnyH_ready (rs := [14]) (by kernel_rfl) (by simp) ?_
  refine AllReadyH.cons (o := { dst := some 27, op := Op.call { callee := Callee.value (Operand.func 27), args := #[Operand.tmp 26], argTypes := #[25] }, type := 4, pos := "law.go:143", after := #[{ on := 13, ground := Ground.data }, { on := 12, ground := Ground.chain }, { on := 12, ground := Ground.guard }], guard := some (12, true) }) rfl (fun K hK => ?_) AllReadyH.nil
  go_simp
  refine (hG.out _).mono ?_
  rintro e w4 ⟨rfl, hb4⟩
  have hb4' : Below w3.heap.size w3 w4 := (below_drewN (Below.refl _ _) 1).later hb4
  have c0' : w4.cell? ⟨w.heap.size, 0, none⟩ = some (.int .u8 a0) := by rw [hb4'.cell (p := ⟨w.heap.size, 0, none⟩) (block_lt_of_cell c0)]; exact c0
  go_wp2_with fail
  refine hK.out _ _ ?_ (fun hHeld14 => ?_)
  · exact ⟨hb4', c0'⟩
  clear hK K
  try simp only [Act.put, List.setIfInBounds_toArray, List.set_cons_zero, List.set_cons_succ]
  refine wpAnyH_take (i := 19) (oi := { dst := some 32, op := Op.binOp BinOp.eql 4 (Operand.tmp 27) (Operand.tmp 31) 4, type := 4, pos := "law.go:143", after := #[{ on := 14, ground := Ground.data }, { on := 18, ground := Ground.data }, { on := 12, ground := Ground.guard }], guard := some (12, true) }) (v := ?v18) rfl (by kernel_rfl) (by kernel_rfl) (by kernel_rfl) (fun _ _ _ h => h) (Or.inl ⟨by rfl, ?y18⟩) (by assumption) ?r18
  case y18 => (intro w hSw; (try dsimp only at hSw); (try (go_split_ands)); go_simp; try with_reducible rfl)
  try simp only [Act.put, List.setIfInBounds_toArray, List.set_cons_zero, List.set_cons_succ]
  refine wpAnyH_take (i := 20) (oi := { dst := some 33, op := Op.pick (Operand.tmp 25) (Operand.tmp 32) (Operand.const (Value.bool false)), type := 4, pos := "law.go:143", after := #[{ on := 12, ground := Ground.data }, { on := 19, ground := Ground.data }], guard := none }) (v := ?v19) rfl (by kernel_rfl) (by kernel_rfl) (by kernel_rfl) (fun _ _ _ h => h) (Or.inl ⟨by rfl, ?y19⟩) (by assumption) ?r19
  case y19 => (intro w hSw; (try dsimp only at hSw); (try (go_split_ands)); go_simp; try with_reducible rfl)
  try simp only [Act.put, List.setIfInBounds_toArray, List.set_cons_zero, List.set_cons_succ]
  refine wpAnyH_take (i := 21) (oi := { dst := some 4, op := Op.assign (Operand.tmp 33), type := 4, pos := "law.go:143", after := #[{ on := 20, ground := Ground.data }, { on := 14, ground := Ground.chain }, { on := 0, ground := Ground.phase }, { on := 1, ground := Ground.phase }, { on := 2, ground := Ground.phase }, { on := 3, ground := Ground.phase }, { on := 4, ground := Ground.phase }, { on := 5, ground := Ground.phase }, { on := 6, ground := Ground.phase }, { on := 7, ground := Ground.phase }, { on := 8, ground := Ground.phase }, { on := 9, ground := Ground.phase }, { on := 10, ground := Ground.phase }, { on := 11, ground := Ground.phase }, { on := 12, ground := Ground.phase }, { on := 13, ground := Ground.phase }, { on := 14, ground := Ground.phase }, { on := 15, ground := Ground.phase }, { on := 16, ground := Ground.phase }, { on := 17, ground := Ground.phase }, { on := 18, ground := Ground.phase }, { on := 19, ground := Ground.phase }, { on := 20, ground := Ground.phase }], guard := none }) (v := ?v20) rfl (by kernel_rfl) (by kernel_rfl) (by kernel_rfl) (fun _ _ _ h => h) (Or.inl ⟨by rfl, ?y20⟩) (by assumption) ?r20
  case y20 => (intro w hSw; (try dsimp only at hSw); (try (go_split_ands)); go_simp; try with_reducible rfl)
  try simp only [Act.put, List.setIfInBounds_toArray, List.set_cons_zero, List.set_cons_succ]
  refine wpAnyH_done (by kernel_rfl) ?_ _
  refine NoPanic.normal ?_
  go_wp2
  go_ret
  refine ⟨ret_bool ?_, hW3.out.later hb4'⟩
  rw [Int.tmod_eq_emod_of_nonneg ha0.1]
  simp
end Go.Proofs.YtiimppbfigikfaaDoor
