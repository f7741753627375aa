/-
  The statement MacBuilds, walked. Condition: the table lies as the program's text lays it ('Tab').
-/
import Derived.Test.YtiimppbfigikfaaDoorRf5
import Derived.Test.YtiimppbfigikfaaDoorRf6
import Derived.Test.YtiimppbfigikfaaDoorCame
import Derived.BigQuiet
namespace Go.Proofs.YtiimppbfigikfaaDoor
open Go.RowKit
set_option linter.unusedVariables false

theorem RBuild_any (h : Hd) {v : Value} {l : List Int} (w : World) (hB : h.bytes) (hv : Bs w v l) (hE : checkE h l.length = 0) :
    Calls Tryd.prog 24 #[.agg h.row, v] w fun e w' => ∃ a n c, e = .returned (.slice a n c) ∧ Bs w' (.slice a n c) (buildL h l) ∧ Below w.heap.size w w' := by
  cases ht : h.tg
  · exact RBuild_F h w hB hv hE ht
  · cases hd : h.de
    · exact RBuild_T h w hB hv hE ht hd
    · exact RBuild_U h w hB hv hE ht hd
set_option maxRecDepth 20000 in
theorem Bu_long (h : Hd) (v : Value) (l : List Int) (w : World) (hT : Tab w) (hv : Bs w v l) (hl : 1600 < l.length) :
    Calls Tryd.prog 5 #[.agg h.row, v] w fun e w' => e = .returned (.bool true) ∧ Below w.heap.size w w' := by
  have hd6 : decide ((1600 : Int) < (l.length : Int)) = true := by simp; omega
  have hF := hide (fun w hT => frames_any w hT)
  have HT := hide hT
  obtain ⟨_, va, vc, rfl, _⟩ := hv
  clear hT hl
  go_enter Tryd.func5, Tryd.ntmps5
  go_wp2_with fail
  refine (hF.out _ (HT.out.later (below1 _ _))).mono ?_
  rintro e w1 ⟨rfl, hb1⟩
  have hW1 := hide ((below1 w _).later hb1)
  clear hb1 hF
  go_wp2
  go_ret
  exact ⟨rfl, hW1.out⟩
set_option maxRecDepth 20000 in
theorem Bu_bad (h : Hd) (v : Value) (l : List Int) (w : World) (hT : Tab w) (hW : h.wf) (hv : Bs w v l) (hl : ¬ 1600 < l.length) (hE : checkE h l.length ≠ 0) :
    Calls Tryd.prog 5 #[.agg h.row, v] w fun e w' => e = .returned (.bool true) ∧ Below w.heap.size w w' := by
  have hs : 0 ≤ h.s0 ∧ h.s0 ≤ 255 := hW.bytes.2 h.s0 (by simp [Hd.src])
  have hd6 : decide ((1600 : Int) < (l.length : Int)) = false := by simp; omega
  have hC := hide (fun w => Check_any h l.length w hs)
  have hBb := hide (fun W (hv : Bs W v l) => Build_bad h W hW.bytes hv hE)
  have hF := hide (fun w hT => frames_any w hT)
  have hne : (checkE h l.length != 0) = true := by simpa using hE
  generalize checkE h l.length = E at *
  have HT := hide hT
  have HV := hide hv
  obtain ⟨_, va, vc, rfl, _⟩ := hv
  have hk := heap_alloc_new w (.cells h.row 27)
  clear hT hW hl hs hE
  go_enter Tryd.func5, Tryd.ntmps5
  go_wp2_with fail
  refine (hF.out _ (HT.out.later (below1 _ _))).mono ?_
  rintro e w1 ⟨rfl, hb1⟩
  have hk1 := heap_kept hb1 hk
  have hW1 := hide ((below1 w _).later hb1)
  clear hb1 hk hF
  go_wp2_with ((with_reducible change wpList _ _ _ _ _ _); refine wpList_load_row rfl 27 (.tmp 2) rfl w.heap.size rfl 27 _ _ _ hk1 Tryd.underlying27 rfl (hdSize _) ?_)
  refine (hBb.out _ (HV.out.below hW1.out)).mono ?_
  rintro e w2 ⟨rfl, hb2⟩
  have hk2 := heap_kept hb2 hk1
  have hW2 := hide (hW1.out.later hb2)
  clear hb2 hk1 hBb hW1
  go_wp2_with ((with_reducible change wpList _ _ _ _ _ _); refine wpList_load_row rfl 27 (.tmp 2) rfl w.heap.size rfl 27 _ _ _ hk2 Tryd.underlying27 rfl (hdSize _) ?_)
  refine (hC.out _).mono ?_
  rintro e w3 ⟨rfl, hb3⟩
  have hW3 := hide (hW2.out.later hb3)
  clear hb3 hk2 hC hW2
  go_wp2
  go_ret
  exact ⟨ret_bool (by simp), hW3.out⟩
set_option maxRecDepth 20000 in
set_option maxHeartbeats 4000000 in
theorem Bu_ok (h : Hd) (v : Value) (l : List Int) (w : World) (hT : Tab w) (hW : h.wf) (hv : Bs w v l) (hE : checkE h l.length = 0) :
    Calls Tryd.prog 5 #[.agg h.row, v] w fun e w' => e = .returned (.bool true) ∧ Below w.heap.size w w' := by
  have hs : 0 ≤ h.s0 ∧ h.s0 ≤ 255 := hW.bytes.2 h.s0 (by simp [Hd.src])
  have hF0 := fits_of_check hW.bytes hE
  have hd6 : decide ((1600 : Int) < (l.length : Int)) = false := by have := hF0.2.2.1; simp; omega
  have hC := hide (fun w => Check_any h l.length w hs)
  rw [hE] at hC
  have hCa := hide (carr_build hW.bytes hE)
  have hRb := hide (fun W (hv : Bs W v l) => RBuild_any h W hW.bytes hv hE)
  have hBo := hide (fun W hT (hv : Bs W v l) => Build_ok h W hW.bytes hT hv hE)
  have hF := hide (fun w hT => frames_any w hT)
  have hneq : ∀ w, (binOp .neq 27 (.agg h.row) (.agg h.row)).run Tryd.prog w = .ok (.bool false) w := fun w => by rw [hd_neq h h hW hW]; simp
  have hgd := eqGuard_hd
  have HT := hide hT
  have HV := hide hv
  obtain ⟨m, hPm, hm0⟩ := carr_parsed hCa.out
  have HPm := hide hPm
  have Hm0 := hide hm0
  generalize buildL h l = BL at *
  obtain ⟨_, va, vc, rfl, _⟩ := hv
  have hk := heap_alloc_new w (.cells h.row 27)
  clear hT hW hs hE hF0 hPm hm0 hCa
  go_enter Tryd.func5, Tryd.ntmps5
  go_wp2_with fail
  refine (hF.out _ (HT.out.later (below1 _ _))).mono ?_
  rintro e w1 ⟨rfl, hb1⟩
  have hk1 := heap_kept hb1 hk
  have hW1 := hide ((below1 w _).later hb1)
  clear hb1 hk hF
  go_wp2_with ((with_reducible change wpList _ _ _ _ _ _); refine wpList_load_row rfl 27 (.tmp 2) rfl w.heap.size rfl 27 _ _ _ hk1 Tryd.underlying27 rfl (hdSize _) ?_)
  refine (hBo.out _ (HT.out.later hW1.out) (HV.out.below hW1.out)).mono ?_
  rintro e w2 ⟨g2, n2', rfl, hn2, hg2, hB2, hb2⟩
  have hk2 := heap_kept hb2 hk1
  have hW2 := hide (hW1.out.later hb2)
  have HB2 := hide hB2
  clear hn2 hg2 hb2 hk1 hBo hW1 hB2
  go_wp2_with ((with_reducible change wpList _ _ _ _ _ _); refine wpList_load_row rfl 27 (.tmp 2) rfl w.heap.size rfl 27 _ _ _ hk2 Tryd.underlying27 rfl (hdSize _) ?_)
  refine (hC.out _).mono ?_
  rintro e w3 ⟨rfl, hb3⟩
  have hk3 := heap_kept hb3 hk2
  have hW3 := hide (hW2.out.later hb3)
  have HB3 := hide (HB2.out.below hb3)
  clear hb3 hk2 hC hW2 HB2
  obtain ⟨S1, hS1⟩ : ∃ S, S = bstr BL := ⟨_, rfl⟩
  obtain ⟨S2, hS2⟩ : ∃ S, S = bstr BL := ⟨_, rfl⟩
  have hst : (S1.toList == S2.toList) = true := by rw [hS1, hS2]; simp
  have HS2 := hide hS2
  have hSS : Hid (∀ W, Below w3.heap.size w3 W → Below w3.heap.size w3 W ∧ (convert 22 9 (.slice (some ⟨g2, 0, none⟩) n2' n2')).run Tryd.prog W = .ok (.string S1) W) := fun W hW => ⟨hW, by rw [hS1]; exact conv_str 22 9 5 Tryd.underlying22 Tryd.underlying5 Tryd.underlying9 (HB3.out.below hW)⟩
  clear hS1 hS2
  have HD3 : Hid (Below w3.heap.size w3 w3.drew) := below_drewN (Below.refl _ _) 1
  have Hk3 := hide hk3
  clear hk3
  go_wp2_with fail
  refine wp_region_noPanic ?_
  refine wp_region_held_drew (S := fun W => Below w3.heap.size w3 W ∧ (convert 22 9 (.slice (some ⟨g2, 0, none⟩) n2' n2')).run Tryd.prog W = .ok (.string S1) W) (by kernel_rfl) (hSS.out _ HD3.out) (fun hHeld => ?_)
  refine wpAnyH_take (i := 0) (oi := { dst := some 38, op := Op.move (Operand.tmp 6), type := 28, pos := "law.go:64", after := #[], guard := none }) (v := ?v1) rfl (by kernel_rfl) (by kernel_rfl) (by kernel_rfl) (fun _ _ _ h => h) (Or.inl ⟨by rfl, ?y1⟩) (by assumption) ?r1
  case y1 => (intro w hSw; (try dsimp only at hSw); (try (go_split_ands)); go_simp; try with_reducible rfl)
  try simp only [Act.put, List.setIfInBounds_toArray, List.set_cons_zero, List.set_cons_succ]
  refine wpAnyH_take (i := 1) (oi := { dst := some 39, op := Op.binOp BinOp.neq 28 (Operand.tmp 38) (Operand.const (Value.int IntKind.i64 0)) 28, type := 4, pos := "law.go:64", after := #[{ on := 0, ground := Ground.data }], guard := none }) (v := ?v2) rfl (by kernel_rfl) (by kernel_rfl) (by kernel_rfl) (fun _ _ _ h => h) (Or.inl ⟨by rfl, ?y2⟩) (by assumption) ?r2
  case y2 => (intro w hSw; (try dsimp only at hSw); (try (go_split_ands)); go_simp; try with_reducible rfl)
  try simp only [Act.put, List.setIfInBounds_toArray, List.set_cons_zero, List.set_cons_succ]
  refine wpAnyH_take (i := 2) (oi := { dst := some 40, op := Op.move (Operand.tmp 39), type := 4, pos := "law.go:64", after := #[{ on := 1, ground := Ground.data }], guard := none }) (v := ?v3) rfl (by kernel_rfl) (by kernel_rfl) (by kernel_rfl) (fun _ _ _ h => h) (Or.inl ⟨by rfl, ?y3⟩) (by assumption) ?r3
  case y3 => (intro w hSw; (try dsimp only at hSw); (try (go_split_ands)); go_simp; try with_reducible rfl)
  try simp only [Act.put, List.setIfInBounds_toArray, List.set_cons_zero, List.set_cons_succ]
  refine wpAnyH_take (i := 3) (oi := { dst := some 41, op := Op.move (Operand.tmp 5), type := 22, pos := "law.go:64", after := #[{ on := 2, ground := Ground.guard }], guard := some (2, false) }) (v := ?v4) rfl (by kernel_rfl) (by kernel_rfl) (by kernel_rfl) (fun _ _ _ h => h) (Or.inl ⟨by rfl, ?y4⟩) (by assumption) ?r4
  case y4 => (intro w hSw; (try dsimp only at hSw); (try (go_split_ands)); go_simp; try with_reducible rfl)
  try simp only [Act.put, List.setIfInBounds_toArray, List.set_cons_zero, List.set_cons_succ]
  refine wpAnyH_take (i := 4) (oi := { dst := some 42, op := Op.convert 22 9 (Operand.tmp 41), type := 9, pos := "law.go:64", after := #[{ on := 3, ground := Ground.data }, { on := 2, ground := Ground.guard }], guard := some (2, false) }) (v := ?v5) rfl (by kernel_rfl) (by kernel_rfl) (by kernel_rfl) (fun _ _ _ h => h) (Or.inl ⟨by rfl, ?y5⟩) (by assumption) ?r5
  case y5 => (intro w hSw; (try dsimp only at hSw); (try (go_split_ands)); go_simp; try with_reducible rfl)
  try simp only [Act.put, List.setIfInBounds_toArray, List.set_cons_zero, List.set_cons_succ]
  refine wpAnyH_take (i := 5) (oi := { dst := some 43, op := Op.load 27 (Operand.tmp 2), type := 27, pos := "law.go:64", after := #[{ on := 2, ground := Ground.guard }], guard := some (2, false) }) (v := _) rfl (by kernel_rfl) (by kernel_rfl) (by kernel_rfl) (fun _ _ _ h => h) (yieldsIf_load_row rfl 27 _ rfl w.heap.size rfl 27 _ _ _ (fun W h => heap_kept h.1 Hk3.out) Tryd.underlying27 rfl (hdSize _)) (by assumption) ?_
  try simp only [Act.put, List.setIfInBounds_toArray, List.set_cons_zero, List.set_cons_succ]
  refine wpAnyH_take (i := 6) (oi := { dst := some 44, op := Op.move (Operand.tmp 1), type := 22, pos := "law.go:64", after := #[{ on := 2, ground := Ground.guard }], guard := some (2, false) }) (v := ?v6) rfl (by kernel_rfl) (by kernel_rfl) (by kernel_rfl) (fun _ _ _ h => h) (Or.inl ⟨by rfl, ?y6⟩) (by assumption) ?r6
  case y6 => (intro w hSw; (try dsimp only at hSw); (try (go_split_ands)); go_simp; try with_reducible rfl)
  try simp only [Act.put, List.setIfInBounds_toArray, List.set_cons_zero, List.set_cons_succ]
  refine wpAnyH_ready (rs := [7]) (by kernel_rfl) (by simp) ?_
  refine AllReadyH.cons (o := { dst := some 45, op := Op.call { callee := Callee.value (Operand.func 24), args := #[Operand.tmp 43, Operand.tmp 44], argTypes := #[27, 22] }, type := 22, pos := "law.go:64", after := #[{ on := 5, ground := Ground.data }, { on := 6, ground := Ground.data }, { on := 2, ground := Ground.chain }, { on := 2, ground := Ground.guard }], guard := some (2, false) }) rfl (fun K hK => ?_) AllReadyH.nil
  go_simp
  refine (hRb.out _ (HV.out.below (hW3.out.later HD3.out))).mono ?_
  rintro e w5 ⟨a5, n5, c5, rfl, hB5, hb5⟩
  have hg5 := hide (HD3.out.later hb5)
  have z5 : (convert 22 9 (.slice a5 n5 c5)).run Tryd.prog w5 = .ok (.string S2) w5 := by rw [HS2.out]; exact conv_str 22 9 5 Tryd.underlying22 Tryd.underlying5 Tryd.underlying9 hB5
  clear hb5 hRb hB5
  go_wp2_with fail
  refine hK.out _ _ ?_ (fun hHeld7 => ?_)
  · exact hSS.out _ hg5.out
  clear hK K
  try simp only [Act.put, List.setIfInBounds_toArray, List.set_cons_zero, List.set_cons_succ]
  refine wpAnyH_ready (rs := [8]) (by kernel_rfl) (by simp) ?_
  refine AllReadyH.cons (o := { dst := some 46, op := Op.convert 22 9 (Operand.tmp 45), type := 9, pos := "law.go:64", after := #[{ on := 7, ground := Ground.data }, { on := 2, ground := Ground.guard }], guard := some (2, false) }) rfl (fun K hK => ?_) AllReadyH.nil
  go_simp
  refine hK.out _ _ (hSS.out _ hg5.out) (fun hHeld8 => ?_)
  clear hK K
  try simp only [Act.put, List.setIfInBounds_toArray, List.set_cons_zero, List.set_cons_succ]
  refine wpAnyH_take (i := 9) (oi := { dst := some 47, op := Op.binOp BinOp.neq 9 (Operand.tmp 42) (Operand.tmp 46) 9, type := 4, pos := "law.go:64", after := #[{ on := 4, ground := Ground.data }, { on := 8, ground := Ground.data }, { on := 2, ground := Ground.guard }], guard := some (2, false) }) (v := ?v7) rfl (by kernel_rfl) (by kernel_rfl) (by kernel_rfl) (fun _ _ _ h => h) (Or.inl ⟨by rfl, ?y7⟩) (by assumption) ?r7
  case y7 => (intro w hSw; (try dsimp only at hSw); (try (go_split_ands)); go_simp; try with_reducible rfl)
  try simp only [Act.put, List.setIfInBounds_toArray, List.set_cons_zero, List.set_cons_succ]
  refine wpAnyH_take (i := 10) (oi := { dst := some 48, op := Op.pick (Operand.tmp 40) (Operand.const (Value.bool true)) (Operand.tmp 47), type := 4, pos := "law.go:64", after := #[{ on := 2, ground := Ground.data }, { on := 9, ground := Ground.data }], guard := none }) (v := ?v8) rfl (by kernel_rfl) (by kernel_rfl) (by kernel_rfl) (fun _ _ _ h => h) (Or.inl ⟨by rfl, ?y8⟩) (by assumption) ?r8
  case y8 => (intro w hSw; (try dsimp only at hSw); (try (go_split_ands)); go_simp; try with_reducible rfl)
  try simp only [Act.put, List.setIfInBounds_toArray, List.set_cons_zero, List.set_cons_succ]
  refine wpAnyH_done (by kernel_rfl) ?_ _
  refine NoPanic.normal ?_
  have hW5 := hide (hW3.out.later hg5.out)
  have HB5 := hide (HB3.out.below hg5.out)
  have Hk5 := hide (heap_kept hg5.out Hk3.out)
  clear z5 hSS HB3 Hk3 hW3 hg5 HD3 hst
  go_wp2_with fail
  have hP6 := Parse_any HB5.out (HT.out.later hW5.out)
  rw [HPm.out] at hP6
  refine hP6.mono ?_
  rintro e w6 ⟨pa, pn, pc, rfl, hB6, hb6⟩
  obtain ⟨hB6f, hpn, hpc⟩ := hB6.front_of
  simp only [List.length_replicate] at hpn
  have Hpn := hide hpn
  have HB6 := hide hB6
  have HB6f := hide hB6f
  have Hk6 := hide (heap_kept hb6 Hk5.out)
  have hW6 := hide (hW5.out.later hb6)
  have hsl := fun W => slice_front pa pn pc l.length hpc W
  have hlt : decide ((pn : Int) < (l.length : Int)) = false := by simp; omega
  have hlt2 : decide (pn < l.length) = false := by simp; omega
  clear hb6 hP6 hB6 hB6f Hk5 hW5 HB5 hpn
  have Hpc := hide hpc
  clear hpc
  go_wp2_with ((with_reducible change wpList _ _ _ _ _ _); refine wpList_store_fresh rfl 27 (.tmp 8) (.tmp 52) rfl h.row Hd.zero.row rfl rfl 27 (hdSize _) rfl (Hd.row_all _) ?_; intro w7 hG7 hb7; have HG7 := hide hG7; have Hk7 := hide (heap_kept hb7 Hk6.out); have hW7 := hide (hW6.out.later hb7); have HB7 := hide (HB6.out.below hb7); have HB7f := hide (HB6f.out.below hb7); clear hb7 hG7 Hk6 hW6 HB6 HB6f; refine unh ?_)
  refine hide ?_
  obtain ⟨S3, hS3⟩ : ∃ S, S = bstr l := ⟨_, rfl⟩
  obtain ⟨S4, hS4⟩ : ∃ S, S = bstr l := ⟨_, rfl⟩
  have hne : (S3.toList == S4.toList) = true := by rw [hS3, hS4]; simp
  have z1 : ∀ nq, (convert 22 9 (.slice pa l.length pc)).run Tryd.prog (w7.drewN nq) = .ok (.string S3) (w7.drewN nq) := fun nq => by rw [hS3]; exact conv_str 22 9 5 Tryd.underlying22 Tryd.underlying5 Tryd.underlying9 (HB7f.out.below (below_drewN (Below.refl _ _) nq))
  have z2 : ∀ nq, (convert 22 9 (.slice va l.length vc)).run Tryd.prog (w7.drewN nq) = .ok (.string S4) (w7.drewN nq) := fun nq => by rw [hS4]; exact conv_str 22 9 5 Tryd.underlying22 Tryd.underlying5 Tryd.underlying9 (HV.out.below (below_drewN hW7.out nq))
  have z3 : ∀ nq, (Instr.loadAt 27 (.pointer (some ⟨w6.heap.size, 0, none⟩))).run Tryd.prog (w7.drewN nq) = .ok (.agg h.row) (w7.drewN nq) := fun nq => load_hd (W := w7.drewN nq) HG7.out
  have z4 : ∀ nq, (Instr.loadAt 27 (.pointer (some ⟨w.heap.size, 0, none⟩))).run Tryd.prog (w7.drewN nq) = .ok (.agg h.row) (w7.drewN nq) := fun nq => load_hd (W := w7.drewN nq) Hk7.out
  clear hS3 hS4
  go_wp2_with fail
  refine wp_region_quiet_lit (by kernel_rfl) (by kernel_rfl) ?_
  repeat (go_big_quiet_step (fail))
  refine wpQuiet_row rfl 27 _ rfl _ z3 ?_
  try simp only [Act.put, List.setIfInBounds_toArray, List.set_cons_zero, List.set_cons_succ]
  refine wpQuiet_row rfl 27 _ rfl _ z4 ?_
  try simp only [Act.put, List.setIfInBounds_toArray, List.set_cons_zero, List.set_cons_succ]
  repeat (go_big_quiet_step (fail))
  refine wpQuiet_nil ?_
  intro _ hw'
  obtain ⟨nq, hw''⟩ := hw'
  subst hw''
  have Hk8 : Hid ((w7.drewN nq).heap[w.heap.size]? = _) := Hk7
  have hWz := hide (below_drewN hW7.out nq)
  have HB8 := hide (HB7.out.below (below_drewN (Below.refl _ _) nq))
  clear z1 z2 z3 z4 hne hsl hlt hlt2 HG7 Hk7 hW7 HB7 HB7f hneq hgd
  generalize hw8 : w7.drewN nq = w8 at *
  clear hw8
  have c17 : w8.cell? ⟨w.heap.size, 17, none⟩ = some (.bool h.llc) := (cell_of_row _ _ _ _ _ _ Hk8.out).trans rfl
  by_cases hm : m = 0
  · subst hm
    obtain rfl : pn = l.length := Hpn.out
    have hee : ((l.length : Int) == (l.length : Int)) = true := by simp
    generalize h.llc = LC at *
    by_cases hpe : pc = l.length
    · subst hpe
      cases LC
      all_goals
        go_wp2_with fail
        go_loop [84] (fun i => i = .int .i64 0) (fun _ => 0)
        case atStart => rfl
        case round =>
          subst hrel
          go_wp2_with fail
          go_ret
          exact ⟨rfl, hWz.out⟩
    · cases LC
      all_goals
        go_wp2_with fail
        go_loop [84] (fun i => i = .int .i64 0) (fun _ => 0)
        case atStart => rfl
        case round =>
          subst hrel
          go_wp2_with fail
          go_ret
          exact ⟨rfl, hWz.out⟩
  · have hlf : h.llc = false := by
      cases hq : h.llc
      · rfl
      · exact absurd (Hm0.out hq) hm
    rw [hlf] at c17
    obtain ⟨b, off, rfl, hcl, hpc, hpx⟩ : ∃ b off, pa = some ⟨b, off, none⟩ ∧ (∀ i, i < m → w8.cell? ⟨b, off + (l.length + i), none⟩ = some (.int .u8 0)) ∧ pn ≤ pc ∧ pc ≤ maxLen := by
      rcases HB8.out.cases with ⟨h, _⟩ | ⟨b, off, cap, e, _, h1, h2, h3⟩
      · have := congrArg List.length h; simp at this; omega
      · simp only [Value.slice.injEq] at e
        obtain ⟨rfl, e2, rfl⟩ := e
        refine ⟨b, off, rfl, fun i hi => ?_, by omega, h2⟩
        rw [h3 (l.length + i) (by simp; omega)]
        congr 2
        simp [List.getD_eq_getElem?_getD, hi]
    have Hcl := hide hcl
    have hpne : ¬ pc = l.length := by have := Hpn.out; omega
    have hpl : pn - l.length = m := by have := Hpn.out; omega
    have hle : (l.length : Int) ≤ (pn : Int) := by have := Hpn.out; omega
    have hmb : (m : Int) ≤ 9223372036854775807 := by have := Hpn.out; unfold maxLen at hpx; omega
    clear hcl HB8 hpx
    go_wp2_with fail
    go_loop [84] (fun i => ∃ j : Nat, j ≤ m ∧ i = .int .i64 j) (fun i => m - (intOf i).toNat)
    case atStart => exact ⟨0, Nat.zero_le _, rfl⟩
    case round =>
      obtain ⟨j, hj, rfl⟩ := hrel
      by_cases hjm : j < m
      · have hc := Hcl.out j hjm
        rw [← Nat.add_assoc] at hc
        go_wp2
        go_round
        case rel => exact ⟨j + 1, by omega, by go_num⟩
        case measure => simp [intOf]; omega
      · obtain rfl : j = m := by omega
        go_wp2_with fail
        go_ret
        exact ⟨rfl, hWz.out⟩
theorem Bu_walk (h : Hd) (v : Value) (l : List Int) (w : World) (hT : Tab w) (hW : h.wf) (hv : Bs w v l) :
    Calls Tryd.prog 5 #[.agg h.row, v] w fun e w' => e = .returned (.bool true) ∧ Below w.heap.size w w' := by
  by_cases hl : 1600 < l.length
  · exact Bu_long h v l w hT hv hl
  by_cases hE : checkE h l.length = 0
  · exact Bu_ok h v l w hT hW hv hE
  · exact Bu_bad h v l w hT hW hv hl hE
end Go.Proofs.YtiimppbfigikfaaDoor
