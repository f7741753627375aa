/-
  The walk of RoleOne. Conditions: those that the theorem names.
-/
import Derived.Test.YtaepjiakehkeoaaRoleM
namespace Go.Proofs.Ytaepjiakehkeoaa
open Go.RowKit
set_option linter.unusedVariables false
set_option maxRecDepth 20000

def rootsTo (pl : Int) (j : Nat) : Int := if 0 ≤ pl ∧ pl < j then 1 else 0
set_option maxHeartbeats 4000000 in
theorem Ro_walk (b : Int) (a : Option Addr) (n cap : Nat) (ps : List Rp) (W : World) (hbU : U64 b) (hI : Rps W a n ps) :
    Calls Try.prog 4 #[.int .u64 b, .slice a n cap] W fun e W' => e = .returned (.bool true) ∧ Below W.heap.size W W' := by
  replace hI := hide hI
  go_enter Try.func4, Try.ntmps4
  go_wp2_with fail
  refine (selects_ok _).mono ?_
  rintro e w1 ⟨rfl, hb1⟩
  have hB1 := hide hb1
  have hI1 := hide (hI.out.below hb1)
  clear hb1 hI
  by_cases hbig : 60 < n
  · go_wp2
    go_ret
    exact ⟨rfl, hB1.out⟩
  go_wp2_with fail
  refine (Select_any b a n cap ps w1 (by omega) hI1).mono ?_
  rintro e w2 ⟨ib, vb, rfl, hb2, hle1, hle2, hne, hi, hv⟩
  have hS2 : Hid (Sel w2 ib vb n b ps) := ⟨hI1.out.1, hi, hv⟩
  have hB2 := hide (hB1.out.later hb2)
  have hI2 := hide (hI1.out.below hb2)
  clear hi hv hb2 hB1 hI1
  have hY := hide (bestW_is b ps n)
  generalize hYE : bestW b ps n = Y at *
  replace hYE := hide hYE
  go_wp2_with fail
  have hA := below1 w2 (.cells (rolesRow Y.v Y.place (.slice (some ⟨ib, 0, none⟩) n n) (.slice (some ⟨vb, 0, none⟩) n n)) 30)
  have hG := hide (heap_alloc_new w2 (.cells (rolesRow Y.v Y.place (.slice (some ⟨ib, 0, none⟩) n n) (.slice (some ⟨vb, 0, none⟩) n n)) 30))
  have hS3 := hide (hS2.out.below hA)
  have hB3 := hide (hB2.out.later hA)
  have hI3 := hide (hI2.out.below hA)
  clear hA hS2 hB2 hI2
  generalize w2.alloc (.cells (rolesRow Y.v Y.place (.slice (some ⟨ib, 0, none⟩) n n) (.slice (some ⟨vb, 0, none⟩) n n)) 30) = w3 at *
  generalize w2.heap.size = g at *
  go_loopw [33, 6] (fun i r wr => ∃ j : Nat, j ≤ n ∧ i = .int .i64 j ∧ r = .int .i64 (rootsTo Y.place j) ∧ Hid (Below w3.heap.size w3 wr)) (fun i _ _ => n - (intOf i).toNat)
  case atStart => exact ⟨0, Nat.zero_le _, rfl, by unfold rootsTo; rw [if_neg (by omega)], hide (Below.refl _ _)⟩
  case round =>
    obtain ⟨j, hj, rfl, rfl, hB⟩ := hrel
    have hGr := hide (heap_kept hB.out hG.out)
    have hBr := hide (hB3.out.later hB.out)
    by_cases hlt : j < n
    · obtain ⟨bb, off, rfl, hP, hwf⟩ := (hI3.out.below hB.out).2 j hlt
      have hro := (hS3.out.below hB.out).role j hlt
      have hte := (hS3.out.below hB.out).tell j hlt
      have hil := (hS3.out.below hB.out).ri.lt
      have hvl := (hS3.out.below hB.out).rv.lt
      rw [hYE.out] at hro hte
      have hcs := roleN_cases (ps.getD j Rp.zero) (decide ((j : Int) = Y.place)) (tellV b Y (ps.getD j Rp.zero))
      have hE : Hid (roleV b Y j (ps.getD j Rp.zero) = roleN (ps.getD j Rp.zero) (decide ((j : Int) = Y.place)) (tellV b Y (ps.getD j Rp.zero))) := rfl
      rw [hE.out] at hro
      have hBe := hide (fun w => Better_any (ps.getD j Rp.zero).told (tellV b Y (ps.getD j Rp.zero)) w)
      have hrt : Hid (rootsTo Y.place (j + 1) = if (j : Int) = Y.place then 1 else rootsTo Y.place j) := by
        show _ = _
        unfold rootsTo
        by_cases e : (j : Int) = Y.place
        · rw [if_pos e, if_pos (by omega)]
        · rw [if_neg e]
          by_cases h : 0 ≤ Y.place ∧ Y.place < j
          · rw [if_pos h, if_pos (by omega)]
          · rw [if_neg h, if_neg (by omega)]
      have hrt0 : Hid ((j : Int) = Y.place → rootsTo Y.place j = 0) := fun e => by unfold rootsTo; rw [if_neg (by omega)]
      have hpl : Hid ((j : Int) = Y.place → (ps.getD j Rp.zero).up = true ∧ (ps.getD j Rp.zero).has = true ∧ Y.v.root < b) := fun e => by
        rcases hY.out with h | ⟨i, h0, h, h1, h2, h3⟩
        · rw [h] at e; simp at e
        · have hij : i = j := by
            rw [h] at e
            simp [wayOf] at e
            omega
          subst hij
          rw [h]
          exact ⟨h1, h2, (lead_root h3).1⟩
      have hcells : w3.cell? ⟨g, 1, none⟩ = some (.int .u64 Y.v.cost) := (cell_of_row _ _ _ _ _ _ hG.out).trans rfl
      have g0 : wr.cell? ⟨g, 0, none⟩ = some (.int .u64 Y.v.root) := (cell_of_row _ _ _ _ _ _ hGr.out).trans rfl
      have g4 : wr.cell? ⟨g, 4, none⟩ = some (.int .i64 Y.place) := (cell_of_row _ _ _ _ _ _ hGr.out).trans rfl
      have g5 : wr.cell? ⟨g, 5, none⟩ = some (.slice (some ⟨ib, 0, none⟩) n n) := (cell_of_row _ _ _ _ _ _ hGr.out).trans rfl
      have g6 : wr.cell? ⟨g, 6, none⟩ = some (.slice (some ⟨vb, 0, none⟩) n n) := (cell_of_row _ _ _ _ _ _ hGr.out).trans rfl
      have hgl := block_lt_of_cell g0
      clear hcells hE
      generalize ps.getD j Rp.zero = p at *
      obtain ⟨id, cost, up, has, ⟨a0, a1, a2, a3⟩⟩ := p
      obtain ⟨c0, c1, c2, c3, c4, c5, c6, c7⟩ := hP
      have htv : tellV b Y ⟨id, cost, up, has, ⟨a0, a1, a2, a3⟩⟩ = ⟨Y.v.root, Y.v.cost, b, id⟩ := rfl
      rw [htv] at hro hte hcs hBe
      obtain ⟨t0, t1, t2, t3⟩ := hte
      dsimp only at *
      have hA := below1 wr (.cells (Rp.row ⟨id, cost, up, has, ⟨a0, a1, a2, a3⟩⟩) 38)
      have hBn := hide (hB.out.later hA)
      have hBw := hide (hB3.out.later (hB.out.later hA))
      clear htv hB hBr hwf
      have hSS : Hid (∀ W : World, Below (wr.alloc (.cells (Rp.row ⟨id, cost, up, has, ⟨a0, a1, a2, a3⟩⟩) 38)).heap.size (wr.alloc (.cells (Rp.row ⟨id, cost, up, has, ⟨a0, a1, a2, a3⟩⟩) 38)) W → W.cell? ⟨g, 6, none⟩ = some (.slice (some ⟨vb, 0, none⟩) n n) ∧ W.cell? ⟨vb, j * 4, none⟩ = some (.int .u64 Y.v.root) ∧ W.cell? ⟨vb, j * 4 + 1, none⟩ = some (.int .u64 Y.v.cost) ∧ W.cell? ⟨vb, j * 4 + 2, none⟩ = some (.int .u64 b) ∧ W.cell? ⟨vb, j * 4 + 3, none⟩ = some (.int .i64 id) ∧ W.cell? ⟨wr.heap.size, 2, none⟩ = some (.bool up) ∧ W.cell? ⟨wr.heap.size, 3, none⟩ = some (.bool has) ∧ W.cell? ⟨wr.heap.size, 4, none⟩ = some (.int .u64 a0) ∧ W.cell? ⟨wr.heap.size, 5, none⟩ = some (.int .u64 a1) ∧ W.cell? ⟨wr.heap.size, 6, none⟩ = some (.int .u64 a2) ∧ W.cell? ⟨wr.heap.size, 7, none⟩ = some (.int .i64 a3)) := fun W hW => by
        have hP := RpAt.of_heap (heap_kept hW (heap_alloc_new wr (.cells (Rp.row ⟨id, cost, up, has, ⟨a0, a1, a2, a3⟩⟩) 38)))
        have hk := hA.later hW
        exact ⟨(hk.cell (p := ⟨g, 6, none⟩) hgl).trans g6, (hk.cell (p := ⟨vb, j * 4, none⟩) hvl).trans t0, (hk.cell (p := ⟨vb, j * 4 + 1, none⟩) hvl).trans t1, (hk.cell (p := ⟨vb, j * 4 + 2, none⟩) hvl).trans t2, (hk.cell (p := ⟨vb, j * 4 + 3, none⟩) hvl).trans t3, hP.c2, hP.c3, hP.c4, hP.c5, hP.c6, hP.c7⟩
      generalize hR : rootsTo Y.place j = R at *
      generalize hR1 : rootsTo Y.place (j + 1) = R1 at *
      replace hR := hide hR
      replace hR1 := hide hR1
      rcases hcs with ⟨rfl, hn⟩ | ⟨rfl, hr, hn⟩ | ⟨rfl, hr, rfl, hn⟩ | ⟨rfl, hr, rfl, hbt, hn⟩ | ⟨rfl, hr, rfl, hbt, hbr, hn⟩ | ⟨rfl, hr, rfl, hbt, hbr, hn⟩
      · rw [hn] at hro
        have hj1 : (j : Int) ≠ Y.place := fun e => by simpa using (hpl.out e).1
        have hR2 : Hid (R1 = R) := by rw [hrt.out, if_neg hj1]; exact rfl
        go_wp2
        go_round
        case rel => exact ⟨j + 1, by omega, by go_num, by rw [hR1.out, hR2.out], hBn⟩
        case measure => simp [intOf]; omega
      · rw [hn] at hro
        have hj1 : (j : Int) = Y.place := of_decide_eq_true hr
        obtain ⟨_, h1, h2⟩ := hpl.out hj1
        have hR2 : Hid (R1 = 1) := by rw [hrt.out, if_pos hj1]; exact rfl
        obtain rfl : R = 0 := hrt0.out hj1
        subst h1
        have hbq : ((j : Int) == Y.place) = true := by rw [beq_iff_eq]; exact hj1
        have hbq2 : ((j : Int) != Y.place) = false := by rw [bne, hbq]; rfl
        have hge : ¬ b ≤ Y.v.root := by omega
        clear hj1 hr hn
        go_wp2
        go_round
        case rel => exact ⟨j + 1, by omega, by go_num, by rw [hR1.out, hR2.out], hBn⟩
        case measure => simp [intOf]; omega
      · rw [hn] at hro
        have hj1 : (j : Int) ≠ Y.place := of_decide_eq_false hr
        have hR2 : Hid (R1 = R) := by rw [hrt.out, if_neg hj1]; exact rfl
        go_wp2_with fail
        refine wp_region_noPanic ?_
        refine wp_region_held_drew (S := fun W => W.cell? ⟨g, 6, none⟩ = some (.slice (some ⟨vb, 0, none⟩) n n) ∧ W.cell? ⟨vb, j * 4, none⟩ = some (.int .u64 Y.v.root) ∧ W.cell? ⟨vb, j * 4 + 1, none⟩ = some (.int .u64 Y.v.cost) ∧ W.cell? ⟨vb, j * 4 + 2, none⟩ = some (.int .u64 b) ∧ W.cell? ⟨vb, j * 4 + 3, none⟩ = some (.int .i64 id) ∧ W.cell? ⟨wr.heap.size, 2, none⟩ = some (.bool true) ∧ W.cell? ⟨wr.heap.size, 3, none⟩ = some (.bool false) ∧ W.cell? ⟨wr.heap.size, 4, none⟩ = some (.int .u64 a0) ∧ W.cell? ⟨wr.heap.size, 5, none⟩ = some (.int .u64 a1) ∧ W.cell? ⟨wr.heap.size, 6, none⟩ = some (.int .u64 a2) ∧ W.cell? ⟨wr.heap.size, 7, none⟩ = some (.int .i64 a3)) (by kernel_rfl) (hSS.out _ (below_drewN (Below.refl _ _) 1)) (fun hHeld => ?_)
        refine wpAnyH_take (i := 0) (oi := { dst := some 70, op := Op.fieldAddr 38 (Operand.tmp 8) 2, type := 0, pos := "law.go:68", after := #[], guard := none }) (v := ?v1) rfl (by kernel_rfl) (by kernel_rfl) (by kernel_rfl) (fun _ _ _ h => h) (Or.inl ⟨by rfl, ?y1⟩) (by assumption) ?r1
        case y1 => (intro w hSw; (try dsimp only at hSw); (try (go_split_ands)); go_simp; try with_reducible rfl)
        try simp only [Act.put, List.setIfInBounds_toArray, List.set_cons_zero, List.set_cons_succ]
        refine wpAnyH_take (i := 1) (oi := { dst := some 71, op := Op.load 4 (Operand.tmp 70), type := 4, pos := "law.go:68", after := #[{ on := 0, ground := Ground.data }], guard := none }) (v := ?v2) rfl (by kernel_rfl) (by kernel_rfl) (by kernel_rfl) (fun _ _ _ h => h) (Or.inl ⟨by rfl, ?y2⟩) (by assumption) ?r2
        case y2 => (intro w hSw; (try dsimp only at hSw); (try (go_split_ands)); go_simp; try with_reducible rfl)
        try simp only [Act.put, List.setIfInBounds_toArray, List.set_cons_zero, List.set_cons_succ]
        refine wpAnyH_take (i := 2) (oi := { dst := some 72, op := Op.unOp UnOp.not 4 (Operand.tmp 71), type := 4, pos := "law.go:68", after := #[{ on := 1, ground := Ground.data }], guard := none }) (v := ?v3) rfl (by kernel_rfl) (by kernel_rfl) (by kernel_rfl) (fun _ _ _ h => h) (Or.inl ⟨by rfl, ?y3⟩) (by assumption) ?r3
        case y3 => (intro w hSw; (try dsimp only at hSw); (try (go_split_ands)); go_simp; try with_reducible rfl)
        try simp only [Act.put, List.setIfInBounds_toArray, List.set_cons_zero, List.set_cons_succ]
        refine wpAnyH_take (i := 3) (oi := { dst := some 73, op := Op.move (Operand.tmp 72), type := 4, pos := "law.go:68", after := #[{ on := 2, ground := Ground.data }], guard := none }) (v := ?v4) rfl (by kernel_rfl) (by kernel_rfl) (by kernel_rfl) (fun _ _ _ h => h) (Or.inl ⟨by rfl, ?y4⟩) (by assumption) ?r4
        case y4 => (intro w hSw; (try dsimp only at hSw); (try (go_split_ands)); go_simp; try with_reducible rfl)
        try simp only [Act.put, List.setIfInBounds_toArray, List.set_cons_zero, List.set_cons_succ]
        refine wpAnyH_take (i := 4) (oi := { dst := some 74, op := Op.fieldAddr 38 (Operand.tmp 8) 3, type := 0, pos := "law.go:68", after := #[{ on := 3, ground := Ground.guard }], guard := some (3, false) }) (v := ?v5) rfl (by kernel_rfl) (by kernel_rfl) (by kernel_rfl) (fun _ _ _ h => h) (Or.inl ⟨by rfl, ?y5⟩) (by assumption) ?r5
        case y5 => (intro w hSw; (try dsimp only at hSw); (try (go_split_ands)); go_simp; try with_reducible rfl)
        try simp only [Act.put, List.setIfInBounds_toArray, List.set_cons_zero, List.set_cons_succ]
        refine wpAnyH_take (i := 5) (oi := { dst := some 75, op := Op.load 4 (Operand.tmp 74), type := 4, pos := "law.go:68", after := #[{ on := 4, ground := Ground.data }, { on := 3, ground := Ground.guard }], guard := some (3, false) }) (v := ?v6) rfl (by kernel_rfl) (by kernel_rfl) (by kernel_rfl) (fun _ _ _ h => h) (Or.inl ⟨by rfl, ?y6⟩) (by assumption) ?r6
        case y6 => (intro w hSw; (try dsimp only at hSw); (try (go_split_ands)); go_simp; try with_reducible rfl)
        try simp only [Act.put, List.setIfInBounds_toArray, List.set_cons_zero, List.set_cons_succ]
        refine wpAnyH_take (i := 6) (oi := { dst := some 76, op := Op.move (Operand.tmp 75), type := 4, pos := "law.go:68", after := #[{ on := 5, ground := Ground.data }, { on := 3, ground := Ground.chain }, { on := 3, ground := Ground.guard }], guard := some (3, false) }) (v := ?v7) rfl (by kernel_rfl) (by kernel_rfl) (by kernel_rfl) (fun _ _ _ h => h) (Or.inl ⟨by rfl, ?y7⟩) (by assumption) ?r7
        case y7 => (intro w hSw; (try dsimp only at hSw); (try (go_split_ands)); go_simp; try with_reducible rfl)
        try simp only [Act.put, List.setIfInBounds_toArray, List.set_cons_zero, List.set_cons_succ]
        refine wpAnyH_take (i := 7) (oi := { dst := some 77, op := Op.fieldAddr 38 (Operand.tmp 8) 4, type := 0, pos := "law.go:68", after := #[{ on := 6, ground := Ground.guard }], guard := some (6, true) }) (v := undef) rfl (by kernel_rfl) (by kernel_rfl) (by kernel_rfl) (fun _ _ _ h => h) (Or.inr ⟨by rfl, rfl⟩) (by assumption) ?_
        try simp only [Act.put, List.setIfInBounds_toArray, List.set_cons_zero, List.set_cons_succ]
        refine wpAnyH_take (i := 8) (oi := { dst := some 78, op := Op.load 26 (Operand.tmp 77), type := 26, pos := "law.go:68", after := #[{ on := 7, ground := Ground.data }, { on := 6, ground := Ground.guard }], guard := some (6, true) }) (v := undef) rfl (by kernel_rfl) (by kernel_rfl) (by kernel_rfl) (fun _ _ _ h => h) (Or.inr ⟨by rfl, rfl⟩) (by assumption) ?_
        try simp only [Act.put, List.setIfInBounds_toArray, List.set_cons_zero, List.set_cons_succ]
        refine wpAnyH_take (i := 9) (oi := { dst := some 79, op := Op.fieldAddr 30 (Operand.tmp 5) 3, type := 0, pos := "law.go:68", after := #[{ on := 6, ground := Ground.guard }], guard := some (6, true) }) (v := undef) rfl (by kernel_rfl) (by kernel_rfl) (by kernel_rfl) (fun _ _ _ h => h) (Or.inr ⟨by rfl, rfl⟩) (by assumption) ?_
        try simp only [Act.put, List.setIfInBounds_toArray, List.set_cons_zero, List.set_cons_succ]
        refine wpAnyH_take (i := 10) (oi := { dst := some 80, op := Op.load 28 (Operand.tmp 79), type := 28, pos := "law.go:68", after := #[{ on := 9, ground := Ground.data }, { on := 6, ground := Ground.guard }], guard := some (6, true) }) (v := undef) rfl (by kernel_rfl) (by kernel_rfl) (by kernel_rfl) (fun _ _ _ h => h) (Or.inr ⟨by rfl, rfl⟩) (by assumption) ?_
        try simp only [Act.put, List.setIfInBounds_toArray, List.set_cons_zero, List.set_cons_succ]
        refine wpAnyH_take (i := 11) (oi := { dst := some 81, op := Op.move (Operand.tmp 7), type := 3, pos := "law.go:68", after := #[{ on := 6, ground := Ground.guard }], guard := some (6, true) }) (v := undef) rfl (by kernel_rfl) (by kernel_rfl) (by kernel_rfl) (fun _ _ _ h => h) (Or.inr ⟨by rfl, rfl⟩) (by assumption) ?_
        try simp only [Act.put, List.setIfInBounds_toArray, List.set_cons_zero, List.set_cons_succ]
        refine wpAnyH_take (i := 12) (oi := { dst := some 82, op := Op.indexAddr 28 (Operand.tmp 80) (Operand.tmp 81), type := 0, pos := "law.go:68", after := #[{ on := 10, ground := Ground.data }, { on := 11, ground := Ground.data }, { on := 6, ground := Ground.guard }], guard := some (6, true) }) (v := undef) rfl (by kernel_rfl) (by kernel_rfl) (by kernel_rfl) (fun _ _ _ h => h) (Or.inr ⟨by rfl, rfl⟩) (by assumption) ?_
        try simp only [Act.put, List.setIfInBounds_toArray, List.set_cons_zero, List.set_cons_succ]
        refine wpAnyH_take (i := 13) (oi := { dst := some 83, op := Op.load 26 (Operand.tmp 82), type := 26, pos := "law.go:68", after := #[{ on := 12, ground := Ground.data }, { on := 6, ground := Ground.guard }], guard := some (6, true) }) (v := undef) rfl (by kernel_rfl) (by kernel_rfl) (by kernel_rfl) (fun _ _ _ h => h) (Or.inr ⟨by rfl, rfl⟩) (by assumption) ?_
        try simp only [Act.put, List.setIfInBounds_toArray, List.set_cons_zero, List.set_cons_succ]
        refine wpAnyH_take (i := 14) (oi := { dst := some 84, op := Op.call { callee := Callee.value (Operand.func 22), args := #[Operand.tmp 78, Operand.tmp 83], argTypes := #[26, 26] }, type := 4, pos := "law.go:68", after := #[{ on := 8, ground := Ground.data }, { on := 13, ground := Ground.data }, { on := 6, ground := Ground.chain }, { on := 6, ground := Ground.guard }], guard := some (6, true) }) (v := undef) rfl (by kernel_rfl) (by kernel_rfl) (by kernel_rfl) (fun _ _ _ h => h) (Or.inr ⟨by rfl, rfl⟩) (by assumption) ?_
        try simp only [Act.put, List.setIfInBounds_toArray, List.set_cons_zero, List.set_cons_succ]
        refine wpAnyH_take (i := 15) (oi := { dst := some 85, op := Op.pick (Operand.tmp 76) (Operand.tmp 84) (Operand.const (Value.bool false)), type := 4, pos := "law.go:68", after := #[{ on := 6, ground := Ground.data }, { on := 14, ground := Ground.data }, { on := 3, ground := Ground.guard }], guard := some (3, false) }) (v := ?v8) rfl (by kernel_rfl) (by kernel_rfl) (by kernel_rfl) (fun _ _ _ h => h) (Or.inl ⟨by rfl, ?y8⟩) (by assumption) ?r8
        case y8 => (intro w hSw; (try dsimp only at hSw); (try (go_split_ands)); go_simp; try with_reducible rfl)
        try simp only [Act.put, List.setIfInBounds_toArray, List.set_cons_zero, List.set_cons_succ]
        refine wpAnyH_take (i := 16) (oi := { dst := some 86, op := Op.pick (Operand.tmp 73) (Operand.const (Value.bool true)) (Operand.tmp 85), type := 4, pos := "law.go:68", after := #[{ on := 3, ground := Ground.data }, { on := 15, ground := Ground.data }], guard := none }) (v := ?v9) rfl (by kernel_rfl) (by kernel_rfl) (by kernel_rfl) (fun _ _ _ h => h) (Or.inl ⟨by rfl, ?y9⟩) (by assumption) ?r9
        case y9 => (intro w hSw; (try dsimp only at hSw); (try (go_split_ands)); go_simp; try with_reducible rfl)
        try simp only [Act.put, List.setIfInBounds_toArray, List.set_cons_zero, List.set_cons_succ]
        refine wpAnyH_done (by kernel_rfl) ?_ _
        refine NoPanic.normal ?_
        have hbz := hide (below_drewN hBn.out 1)
        clear hHeld hSS
        go_wp2
        go_round
        case rel => exact ⟨j + 1, by omega, by go_num, by rw [hR1.out, hR2.out], hbz⟩
        case measure => simp [intOf]; omega
      · rw [hn] at hro
        have hj1 : (j : Int) ≠ Y.place := of_decide_eq_false hr
        have hR2 : Hid (R1 = R) := by rw [hrt.out, if_neg hj1]; exact rfl
        rw [hbt] at hBe
        go_wp2_with fail
        refine wp_region_noPanic ?_
        refine wp_region_held_drew (S := fun W => W.cell? ⟨g, 6, none⟩ = some (.slice (some ⟨vb, 0, none⟩) n n) ∧ W.cell? ⟨vb, j * 4, none⟩ = some (.int .u64 Y.v.root) ∧ W.cell? ⟨vb, j * 4 + 1, none⟩ = some (.int .u64 Y.v.cost) ∧ W.cell? ⟨vb, j * 4 + 2, none⟩ = some (.int .u64 b) ∧ W.cell? ⟨vb, j * 4 + 3, none⟩ = some (.int .i64 id) ∧ W.cell? ⟨wr.heap.size, 2, none⟩ = some (.bool true) ∧ W.cell? ⟨wr.heap.size, 3, none⟩ = some (.bool true) ∧ W.cell? ⟨wr.heap.size, 4, none⟩ = some (.int .u64 a0) ∧ W.cell? ⟨wr.heap.size, 5, none⟩ = some (.int .u64 a1) ∧ W.cell? ⟨wr.heap.size, 6, none⟩ = some (.int .u64 a2) ∧ W.cell? ⟨wr.heap.size, 7, none⟩ = some (.int .i64 a3)) (by kernel_rfl) (hSS.out _ (below_drewN (Below.refl _ _) 1)) (fun hHeld => ?_)
        refine wpAnyH_take (i := 0) (oi := { dst := some 70, op := Op.fieldAddr 38 (Operand.tmp 8) 2, type := 0, pos := "law.go:68", after := #[], guard := none }) (v := ?v10) rfl (by kernel_rfl) (by kernel_rfl) (by kernel_rfl) (fun _ _ _ h => h) (Or.inl ⟨by rfl, ?y10⟩) (by assumption) ?r10
        case y10 => (intro w hSw; (try dsimp only at hSw); (try (go_split_ands)); go_simp; try with_reducible rfl)
        try simp only [Act.put, List.setIfInBounds_toArray, List.set_cons_zero, List.set_cons_succ]
        refine wpAnyH_take (i := 1) (oi := { dst := some 71, op := Op.load 4 (Operand.tmp 70), type := 4, pos := "law.go:68", after := #[{ on := 0, ground := Ground.data }], guard := none }) (v := ?v11) rfl (by kernel_rfl) (by kernel_rfl) (by kernel_rfl) (fun _ _ _ h => h) (Or.inl ⟨by rfl, ?y11⟩) (by assumption) ?r11
        case y11 => (intro w hSw; (try dsimp only at hSw); (try (go_split_ands)); go_simp; try with_reducible rfl)
        try simp only [Act.put, List.setIfInBounds_toArray, List.set_cons_zero, List.set_cons_succ]
        refine wpAnyH_take (i := 2) (oi := { dst := some 72, op := Op.unOp UnOp.not 4 (Operand.tmp 71), type := 4, pos := "law.go:68", after := #[{ on := 1, ground := Ground.data }], guard := none }) (v := ?v12) rfl (by kernel_rfl) (by kernel_rfl) (by kernel_rfl) (fun _ _ _ h => h) (Or.inl ⟨by rfl, ?y12⟩) (by assumption) ?r12
        case y12 => (intro w hSw; (try dsimp only at hSw); (try (go_split_ands)); go_simp; try with_reducible rfl)
        try simp only [Act.put, List.setIfInBounds_toArray, List.set_cons_zero, List.set_cons_succ]
        refine wpAnyH_take (i := 3) (oi := { dst := some 73, op := Op.move (Operand.tmp 72), type := 4, pos := "law.go:68", after := #[{ on := 2, ground := Ground.data }], guard := none }) (v := ?v13) rfl (by kernel_rfl) (by kernel_rfl) (by kernel_rfl) (fun _ _ _ h => h) (Or.inl ⟨by rfl, ?y13⟩) (by assumption) ?r13
        case y13 => (intro w hSw; (try dsimp only at hSw); (try (go_split_ands)); go_simp; try with_reducible rfl)
        try simp only [Act.put, List.setIfInBounds_toArray, List.set_cons_zero, List.set_cons_succ]
        refine wpAnyH_take (i := 4) (oi := { dst := some 74, op := Op.fieldAddr 38 (Operand.tmp 8) 3, type := 0, pos := "law.go:68", after := #[{ on := 3, ground := Ground.guard }], guard := some (3, false) }) (v := ?v14) rfl (by kernel_rfl) (by kernel_rfl) (by kernel_rfl) (fun _ _ _ h => h) (Or.inl ⟨by rfl, ?y14⟩) (by assumption) ?r14
        case y14 => (intro w hSw; (try dsimp only at hSw); (try (go_split_ands)); go_simp; try with_reducible rfl)
        try simp only [Act.put, List.setIfInBounds_toArray, List.set_cons_zero, List.set_cons_succ]
        refine wpAnyH_take (i := 5) (oi := { dst := some 75, op := Op.load 4 (Operand.tmp 74), type := 4, pos := "law.go:68", after := #[{ on := 4, ground := Ground.data }, { on := 3, ground := Ground.guard }], guard := some (3, false) }) (v := ?v15) rfl (by kernel_rfl) (by kernel_rfl) (by kernel_rfl) (fun _ _ _ h => h) (Or.inl ⟨by rfl, ?y15⟩) (by assumption) ?r15
        case y15 => (intro w hSw; (try dsimp only at hSw); (try (go_split_ands)); go_simp; try with_reducible rfl)
        try simp only [Act.put, List.setIfInBounds_toArray, List.set_cons_zero, List.set_cons_succ]
        refine wpAnyH_take (i := 6) (oi := { dst := some 76, op := Op.move (Operand.tmp 75), type := 4, pos := "law.go:68", after := #[{ on := 5, ground := Ground.data }, { on := 3, ground := Ground.chain }, { on := 3, ground := Ground.guard }], guard := some (3, false) }) (v := ?v16) rfl (by kernel_rfl) (by kernel_rfl) (by kernel_rfl) (fun _ _ _ h => h) (Or.inl ⟨by rfl, ?y16⟩) (by assumption) ?r16
        case y16 => (intro w hSw; (try dsimp only at hSw); (try (go_split_ands)); go_simp; try with_reducible rfl)
        try simp only [Act.put, List.setIfInBounds_toArray, List.set_cons_zero, List.set_cons_succ]
        refine wpAnyH_take (i := 7) (oi := { dst := some 77, op := Op.fieldAddr 38 (Operand.tmp 8) 4, type := 0, pos := "law.go:68", after := #[{ on := 6, ground := Ground.guard }], guard := some (6, true) }) (v := ?v17) rfl (by kernel_rfl) (by kernel_rfl) (by kernel_rfl) (fun _ _ _ h => h) (Or.inl ⟨by rfl, ?y17⟩) (by assumption) ?r17
        case y17 => (intro w hSw; (try dsimp only at hSw); (try (go_split_ands)); go_simp; try with_reducible rfl)
        try simp only [Act.put, List.setIfInBounds_toArray, List.set_cons_zero, List.set_cons_succ]
        refine wpAnyH_take (i := 8) (oi := { dst := some 78, op := Op.load 26 (Operand.tmp 77), type := 26, pos := "law.go:68", after := #[{ on := 7, ground := Ground.data }, { on := 6, ground := Ground.guard }], guard := some (6, true) }) (v := ?v18) rfl (by kernel_rfl) (by kernel_rfl) (by kernel_rfl) (fun _ _ _ h => h) (Or.inl ⟨by rfl, ?y18⟩) (by assumption) ?r18
        case y18 => (intro w hSw; (try dsimp only at hSw); (try (go_split_ands)); go_simp; try with_reducible rfl)
        try simp only [Act.put, List.setIfInBounds_toArray, List.set_cons_zero, List.set_cons_succ]
        refine wpAnyH_take (i := 9) (oi := { dst := some 79, op := Op.fieldAddr 30 (Operand.tmp 5) 3, type := 0, pos := "law.go:68", after := #[{ on := 6, ground := Ground.guard }], guard := some (6, true) }) (v := ?v19) rfl (by kernel_rfl) (by kernel_rfl) (by kernel_rfl) (fun _ _ _ h => h) (Or.inl ⟨by rfl, ?y19⟩) (by assumption) ?r19
        case y19 => (intro w hSw; (try dsimp only at hSw); (try (go_split_ands)); go_simp; try with_reducible rfl)
        try simp only [Act.put, List.setIfInBounds_toArray, List.set_cons_zero, List.set_cons_succ]
        refine wpAnyH_take (i := 10) (oi := { dst := some 80, op := Op.load 28 (Operand.tmp 79), type := 28, pos := "law.go:68", after := #[{ on := 9, ground := Ground.data }, { on := 6, ground := Ground.guard }], guard := some (6, true) }) (v := ?v20) rfl (by kernel_rfl) (by kernel_rfl) (by kernel_rfl) (fun _ _ _ h => h) (Or.inl ⟨by rfl, ?y20⟩) (by assumption) ?r20
        case y20 => (intro w hSw; (try dsimp only at hSw); (try (go_split_ands)); go_simp; try with_reducible rfl)
        try simp only [Act.put, List.setIfInBounds_toArray, List.set_cons_zero, List.set_cons_succ]
        refine wpAnyH_take (i := 11) (oi := { dst := some 81, op := Op.move (Operand.tmp 7), type := 3, pos := "law.go:68", after := #[{ on := 6, ground := Ground.guard }], guard := some (6, true) }) (v := ?v21) rfl (by kernel_rfl) (by kernel_rfl) (by kernel_rfl) (fun _ _ _ h => h) (Or.inl ⟨by rfl, ?y21⟩) (by assumption) ?r21
        case y21 => (intro w hSw; (try dsimp only at hSw); (try (go_split_ands)); go_simp; try with_reducible rfl)
        try simp only [Act.put, List.setIfInBounds_toArray, List.set_cons_zero, List.set_cons_succ]
        refine wpAnyH_take (i := 12) (oi := { dst := some 82, op := Op.indexAddr 28 (Operand.tmp 80) (Operand.tmp 81), type := 0, pos := "law.go:68", after := #[{ on := 10, ground := Ground.data }, { on := 11, ground := Ground.data }, { on := 6, ground := Ground.guard }], guard := some (6, true) }) (v := ?v22) rfl (by kernel_rfl) (by kernel_rfl) (by kernel_rfl) (fun _ _ _ h => h) (Or.inl ⟨by rfl, ?y22⟩) (by assumption) ?r22
        case y22 => (intro w hSw; (try dsimp only at hSw); (try (go_split_ands)); go_simp; try with_reducible rfl)
        try simp only [Act.put, List.setIfInBounds_toArray, List.set_cons_zero, List.set_cons_succ]
        refine wpAnyH_take (i := 13) (oi := { dst := some 83, op := Op.load 26 (Operand.tmp 82), type := 26, pos := "law.go:68", after := #[{ on := 12, ground := Ground.data }, { on := 6, ground := Ground.guard }], guard := some (6, true) }) (v := ?v23) rfl (by kernel_rfl) (by kernel_rfl) (by kernel_rfl) (fun _ _ _ h => h) (Or.inl ⟨by rfl, ?y23⟩) (by assumption) ?r23
        case y23 => (intro w hSw; (try dsimp only at hSw); (try (go_split_ands)); go_simp; try with_reducible rfl)
        try simp only [Act.put, List.setIfInBounds_toArray, List.set_cons_zero, List.set_cons_succ]
        refine wpAnyH_ready (rs := [14]) (by kernel_rfl) (by simp) ?_
        refine AllReadyH.cons (o := { dst := some 84, op := Op.call { callee := Callee.value (Operand.func 22), args := #[Operand.tmp 78, Operand.tmp 83], argTypes := #[26, 26] }, type := 4, pos := "law.go:68", after := #[{ on := 8, ground := Ground.data }, { on := 13, ground := Ground.data }, { on := 6, ground := Ground.chain }, { on := 6, ground := Ground.guard }], guard := some (6, true) }) rfl (fun K hK => ?_) AllReadyH.nil
        go_simp
        refine (hBe.out _).mono ?_
        rintro e w7 ⟨rfl, hb7⟩
        have hb7' := Below.later (below_drewN (Below.refl _ _) 1 : Below (wr.alloc (.cells (Rp.row ⟨id, cost, true, true, ⟨a0, a1, a2, a3⟩⟩) 38)).heap.size (wr.alloc (.cells (Rp.row ⟨id, cost, true, true, ⟨a0, a1, a2, a3⟩⟩) 38)) (wr.alloc (.cells (Rp.row ⟨id, cost, true, true, ⟨a0, a1, a2, a3⟩⟩) 38)).drew) hb7
        go_wp2_with fail
        refine hK.out _ _ ?_ (fun hHeld14 => ?_)
        · exact hSS.out _ hb7'
        clear hK K
        try simp only [Act.put, List.setIfInBounds_toArray, List.set_cons_zero, List.set_cons_succ]
        refine wpAnyH_take (i := 15) (oi := { dst := some 85, op := Op.pick (Operand.tmp 76) (Operand.tmp 84) (Operand.const (Value.bool false)), type := 4, pos := "law.go:68", after := #[{ on := 6, ground := Ground.data }, { on := 14, ground := Ground.data }, { on := 3, ground := Ground.guard }], guard := some (3, false) }) (v := ?v24) rfl (by kernel_rfl) (by kernel_rfl) (by kernel_rfl) (fun _ _ _ h => h) (Or.inl ⟨by rfl, ?y24⟩) (by assumption) ?r24
        case y24 => (intro w hSw; (try dsimp only at hSw); (try (go_split_ands)); go_simp; try with_reducible rfl)
        try simp only [Act.put, List.setIfInBounds_toArray, List.set_cons_zero, List.set_cons_succ]
        refine wpAnyH_take (i := 16) (oi := { dst := some 86, op := Op.pick (Operand.tmp 73) (Operand.const (Value.bool true)) (Operand.tmp 85), type := 4, pos := "law.go:68", after := #[{ on := 3, ground := Ground.data }, { on := 15, ground := Ground.data }], guard := none }) (v := ?v25) rfl (by kernel_rfl) (by kernel_rfl) (by kernel_rfl) (fun _ _ _ h => h) (Or.inl ⟨by rfl, ?y25⟩) (by assumption) ?r25
        case y25 => (intro w hSw; (try dsimp only at hSw); (try (go_split_ands)); go_simp; try with_reducible rfl)
        try simp only [Act.put, List.setIfInBounds_toArray, List.set_cons_zero, List.set_cons_succ]
        refine wpAnyH_done (by kernel_rfl) ?_ _
        refine NoPanic.normal ?_
        have hbz := hide (hBn.out.later hb7')
        clear hb7 hb7' hHeld14
        clear hHeld hSS
        go_wp2
        go_round
        case rel => exact ⟨j + 1, by omega, by go_num, by rw [hR1.out, hR2.out], hbz⟩
        case measure => simp [intOf]; omega
      · rw [hn] at hro
        have hj1 : (j : Int) ≠ Y.place := of_decide_eq_false hr
        have hR2 : Hid (R1 = R) := by rw [hrt.out, if_neg hj1]; exact rfl
        subst hbr
        go_wp2
        go_round
        case rel => exact ⟨j + 1, by omega, by go_num, by rw [hR1.out, hR2.out], hBn⟩
        case measure => simp [intOf]; omega
      · rw [hn] at hro
        have hj1 : (j : Int) ≠ Y.place := of_decide_eq_false hr
        have hR2 : Hid (R1 = R) := by rw [hrt.out, if_neg hj1]; exact rfl
        rw [hbt] at hBe
        have hbq2 : (a2 == b) = false := by rw [beq_eq_false_iff_ne]; exact hbr
        go_wp2_with fail
        refine wp_region_noPanic ?_
        refine wp_region_held_drew (S := fun W => W.cell? ⟨g, 6, none⟩ = some (.slice (some ⟨vb, 0, none⟩) n n) ∧ W.cell? ⟨vb, j * 4, none⟩ = some (.int .u64 Y.v.root) ∧ W.cell? ⟨vb, j * 4 + 1, none⟩ = some (.int .u64 Y.v.cost) ∧ W.cell? ⟨vb, j * 4 + 2, none⟩ = some (.int .u64 b) ∧ W.cell? ⟨vb, j * 4 + 3, none⟩ = some (.int .i64 id) ∧ W.cell? ⟨wr.heap.size, 2, none⟩ = some (.bool true) ∧ W.cell? ⟨wr.heap.size, 3, none⟩ = some (.bool true) ∧ W.cell? ⟨wr.heap.size, 4, none⟩ = some (.int .u64 a0) ∧ W.cell? ⟨wr.heap.size, 5, none⟩ = some (.int .u64 a1) ∧ W.cell? ⟨wr.heap.size, 6, none⟩ = some (.int .u64 a2) ∧ W.cell? ⟨wr.heap.size, 7, none⟩ = some (.int .i64 a3)) (by kernel_rfl) (hSS.out _ (below_drewN (Below.refl _ _) 1)) (fun hHeld => ?_)
        refine wpAnyH_take (i := 0) (oi := { dst := some 89, op := Op.fieldAddr 38 (Operand.tmp 8) 4, type := 0, pos := "law.go:72", after := #[], guard := none }) (v := ?v26) rfl (by kernel_rfl) (by kernel_rfl) (by kernel_rfl) (fun _ _ _ h => h) (Or.inl ⟨by rfl, ?y26⟩) (by assumption) ?r26
        case y26 => (intro w hSw; (try dsimp only at hSw); (try (go_split_ands)); go_simp; try with_reducible rfl)
        try simp only [Act.put, List.setIfInBounds_toArray, List.set_cons_zero, List.set_cons_succ]
        refine wpAnyH_take (i := 1) (oi := { dst := some 90, op := Op.fieldAddr 26 (Operand.tmp 89) 2, type := 0, pos := "law.go:72", after := #[{ on := 0, ground := Ground.data }], guard := none }) (v := ?v27) rfl (by kernel_rfl) (by kernel_rfl) (by kernel_rfl) (fun _ _ _ h => h) (Or.inl ⟨by rfl, ?y27⟩) (by assumption) ?r27
        case y27 => (intro w hSw; (try dsimp only at hSw); (try (go_split_ands)); go_simp; try with_reducible rfl)
        try simp only [Act.put, List.setIfInBounds_toArray, List.set_cons_zero, List.set_cons_succ]
        refine wpAnyH_take (i := 2) (oi := { dst := some 91, op := Op.load 22 (Operand.tmp 90), type := 22, pos := "law.go:72", after := #[{ on := 1, ground := Ground.data }], guard := none }) (v := ?v28) rfl (by kernel_rfl) (by kernel_rfl) (by kernel_rfl) (fun _ _ _ h => h) (Or.inl ⟨by rfl, ?y28⟩) (by assumption) ?r28
        case y28 => (intro w hSw; (try dsimp only at hSw); (try (go_split_ands)); go_simp; try with_reducible rfl)
        try simp only [Act.put, List.setIfInBounds_toArray, List.set_cons_zero, List.set_cons_succ]
        refine wpAnyH_take (i := 3) (oi := { dst := some 92, op := Op.move (Operand.tmp 0), type := 22, pos := "law.go:72", after := #[], guard := none }) (v := ?v29) rfl (by kernel_rfl) (by kernel_rfl) (by kernel_rfl) (fun _ _ _ h => h) (Or.inl ⟨by rfl, ?y29⟩) (by assumption) ?r29
        case y29 => (intro w hSw; (try dsimp only at hSw); (try (go_split_ands)); go_simp; try with_reducible rfl)
        try simp only [Act.put, List.setIfInBounds_toArray, List.set_cons_zero, List.set_cons_succ]
        refine wpAnyH_take (i := 4) (oi := { dst := some 93, op := Op.binOp BinOp.eql 22 (Operand.tmp 91) (Operand.tmp 92) 22, type := 4, pos := "law.go:72", after := #[{ on := 2, ground := Ground.data }, { on := 3, ground := Ground.data }], guard := none }) (v := ?v30) rfl (by kernel_rfl) (by kernel_rfl) (by kernel_rfl) (fun _ _ _ h => h) (Or.inl ⟨by rfl, ?y30⟩) (by assumption) ?r30
        case y30 => (intro w hSw; (try dsimp only at hSw); (try (go_split_ands)); go_simp; try with_reducible rfl)
        try simp only [Act.put, List.setIfInBounds_toArray, List.set_cons_zero, List.set_cons_succ]
        refine wpAnyH_take (i := 5) (oi := { dst := some 94, op := Op.move (Operand.tmp 93), type := 4, pos := "law.go:72", after := #[{ on := 4, ground := Ground.data }], guard := none }) (v := ?v31) rfl (by kernel_rfl) (by kernel_rfl) (by kernel_rfl) (fun _ _ _ h => h) (Or.inl ⟨by rfl, ?y31⟩) (by assumption) ?r31
        case y31 => (intro w hSw; (try dsimp only at hSw); (try (go_split_ands)); go_simp; try with_reducible rfl)
        try simp only [Act.put, List.setIfInBounds_toArray, List.set_cons_zero, List.set_cons_succ]
        refine wpAnyH_take (i := 6) (oi := { dst := some 95, op := Op.fieldAddr 38 (Operand.tmp 8) 4, type := 0, pos := "law.go:72", after := #[{ on := 5, ground := Ground.guard }], guard := some (5, false) }) (v := ?v32) rfl (by kernel_rfl) (by kernel_rfl) (by kernel_rfl) (fun _ _ _ h => h) (Or.inl ⟨by rfl, ?y32⟩) (by assumption) ?r32
        case y32 => (intro w hSw; (try dsimp only at hSw); (try (go_split_ands)); go_simp; try with_reducible rfl)
        try simp only [Act.put, List.setIfInBounds_toArray, List.set_cons_zero, List.set_cons_succ]
        refine wpAnyH_take (i := 7) (oi := { dst := some 96, op := Op.load 26 (Operand.tmp 95), type := 26, pos := "law.go:72", after := #[{ on := 6, ground := Ground.data }, { on := 5, ground := Ground.guard }], guard := some (5, false) }) (v := ?v33) rfl (by kernel_rfl) (by kernel_rfl) (by kernel_rfl) (fun _ _ _ h => h) (Or.inl ⟨by rfl, ?y33⟩) (by assumption) ?r33
        case y33 => (intro w hSw; (try dsimp only at hSw); (try (go_split_ands)); go_simp; try with_reducible rfl)
        try simp only [Act.put, List.setIfInBounds_toArray, List.set_cons_zero, List.set_cons_succ]
        refine wpAnyH_take (i := 8) (oi := { dst := some 97, op := Op.fieldAddr 30 (Operand.tmp 5) 3, type := 0, pos := "law.go:72", after := #[{ on := 5, ground := Ground.guard }], guard := some (5, false) }) (v := ?v34) rfl (by kernel_rfl) (by kernel_rfl) (by kernel_rfl) (fun _ _ _ h => h) (Or.inl ⟨by rfl, ?y34⟩) (by assumption) ?r34
        case y34 => (intro w hSw; (try dsimp only at hSw); (try (go_split_ands)); go_simp; try with_reducible rfl)
        try simp only [Act.put, List.setIfInBounds_toArray, List.set_cons_zero, List.set_cons_succ]
        refine wpAnyH_take (i := 9) (oi := { dst := some 98, op := Op.load 28 (Operand.tmp 97), type := 28, pos := "law.go:72", after := #[{ on := 8, ground := Ground.data }, { on := 5, ground := Ground.guard }], guard := some (5, false) }) (v := ?v35) rfl (by kernel_rfl) (by kernel_rfl) (by kernel_rfl) (fun _ _ _ h => h) (Or.inl ⟨by rfl, ?y35⟩) (by assumption) ?r35
        case y35 => (intro w hSw; (try dsimp only at hSw); (try (go_split_ands)); go_simp; try with_reducible rfl)
        try simp only [Act.put, List.setIfInBounds_toArray, List.set_cons_zero, List.set_cons_succ]
        refine wpAnyH_take (i := 10) (oi := { dst := some 99, op := Op.move (Operand.tmp 7), type := 3, pos := "law.go:72", after := #[{ on := 5, ground := Ground.guard }], guard := some (5, false) }) (v := ?v36) rfl (by kernel_rfl) (by kernel_rfl) (by kernel_rfl) (fun _ _ _ h => h) (Or.inl ⟨by rfl, ?y36⟩) (by assumption) ?r36
        case y36 => (intro w hSw; (try dsimp only at hSw); (try (go_split_ands)); go_simp; try with_reducible rfl)
        try simp only [Act.put, List.setIfInBounds_toArray, List.set_cons_zero, List.set_cons_succ]
        refine wpAnyH_take (i := 11) (oi := { dst := some 100, op := Op.indexAddr 28 (Operand.tmp 98) (Operand.tmp 99), type := 0, pos := "law.go:72", after := #[{ on := 9, ground := Ground.data }, { on := 10, ground := Ground.data }, { on := 5, ground := Ground.guard }], guard := some (5, false) }) (v := ?v37) rfl (by kernel_rfl) (by kernel_rfl) (by kernel_rfl) (fun _ _ _ h => h) (Or.inl ⟨by rfl, ?y37⟩) (by assumption) ?r37
        case y37 => (intro w hSw; (try dsimp only at hSw); (try (go_split_ands)); go_simp; try with_reducible rfl)
        try simp only [Act.put, List.setIfInBounds_toArray, List.set_cons_zero, List.set_cons_succ]
        refine wpAnyH_take (i := 12) (oi := { dst := some 101, op := Op.load 26 (Operand.tmp 100), type := 26, pos := "law.go:72", after := #[{ on := 11, ground := Ground.data }, { on := 5, ground := Ground.guard }], guard := some (5, false) }) (v := ?v38) rfl (by kernel_rfl) (by kernel_rfl) (by kernel_rfl) (fun _ _ _ h => h) (Or.inl ⟨by rfl, ?y38⟩) (by assumption) ?r38
        case y38 => (intro w hSw; (try dsimp only at hSw); (try (go_split_ands)); go_simp; try with_reducible rfl)
        try simp only [Act.put, List.setIfInBounds_toArray, List.set_cons_zero, List.set_cons_succ]
        refine wpAnyH_ready (rs := [13]) (by kernel_rfl) (by simp) ?_
        refine AllReadyH.cons (o := { dst := some 102, op := Op.call { callee := Callee.value (Operand.func 22), args := #[Operand.tmp 96, Operand.tmp 101], argTypes := #[26, 26] }, type := 4, pos := "law.go:72", after := #[{ on := 7, ground := Ground.data }, { on := 12, ground := Ground.data }, { on := 5, ground := Ground.chain }, { on := 5, ground := Ground.guard }], guard := some (5, false) }) rfl (fun K hK => ?_) AllReadyH.nil
        go_simp
        refine (hBe.out _).mono ?_
        rintro e w7 ⟨rfl, hb7⟩
        have hb7' := Below.later (below_drewN (Below.refl _ _) 1 : Below (wr.alloc (.cells (Rp.row ⟨id, cost, true, true, ⟨a0, a1, a2, a3⟩⟩) 38)).heap.size (wr.alloc (.cells (Rp.row ⟨id, cost, true, true, ⟨a0, a1, a2, a3⟩⟩) 38)) (wr.alloc (.cells (Rp.row ⟨id, cost, true, true, ⟨a0, a1, a2, a3⟩⟩) 38)).drew) hb7
        go_wp2_with fail
        refine hK.out _ _ ?_ (fun hHeld13 => ?_)
        · exact hSS.out _ hb7'
        clear hK K
        try simp only [Act.put, List.setIfInBounds_toArray, List.set_cons_zero, List.set_cons_succ]
        refine wpAnyH_take (i := 14) (oi := { dst := some 103, op := Op.unOp UnOp.not 4 (Operand.tmp 102), type := 4, pos := "law.go:72", after := #[{ on := 13, ground := Ground.data }, { on := 5, ground := Ground.guard }], guard := some (5, false) }) (v := ?v39) rfl (by kernel_rfl) (by kernel_rfl) (by kernel_rfl) (fun _ _ _ h => h) (Or.inl ⟨by rfl, ?y39⟩) (by assumption) ?r39
        case y39 => (intro w hSw; (try dsimp only at hSw); (try (go_split_ands)); go_simp; try with_reducible rfl)
        try simp only [Act.put, List.setIfInBounds_toArray, List.set_cons_zero, List.set_cons_succ]
        refine wpAnyH_take (i := 15) (oi := { dst := some 104, op := Op.pick (Operand.tmp 94) (Operand.const (Value.bool true)) (Operand.tmp 103), type := 4, pos := "law.go:72", after := #[{ on := 5, ground := Ground.data }, { on := 14, ground := Ground.data }], guard := none }) (v := ?v40) rfl (by kernel_rfl) (by kernel_rfl) (by kernel_rfl) (fun _ _ _ h => h) (Or.inl ⟨by rfl, ?y40⟩) (by assumption) ?r40
        case y40 => (intro w hSw; (try dsimp only at hSw); (try (go_split_ands)); go_simp; try with_reducible rfl)
        try simp only [Act.put, List.setIfInBounds_toArray, List.set_cons_zero, List.set_cons_succ]
        refine wpAnyH_done (by kernel_rfl) ?_ _
        refine NoPanic.normal ?_
        have hbz := hide (hBn.out.later hb7')
        clear hb7 hb7' hHeld13
        clear hHeld hSS
        go_wp2
        go_round
        case rel => exact ⟨j + 1, by omega, by go_num, by rw [hR1.out, hR2.out], hbz⟩
        case measure => simp [intOf]; omega
    · obtain rfl : j = n := by omega
      have hG4 : wr.cell? ⟨g, 4, none⟩ = some (.int .i64 Y.place) := (cell_of_row _ _ _ _ _ _ hGr.out).trans rfl
      have hG0 : wr.cell? ⟨g, 0, none⟩ = some (.int .u64 Y.v.root) := (cell_of_row _ _ _ _ _ _ hGr.out).trans rfl
      have hfin : (0 ≤ Y.place ∧ rootsTo Y.place j = 1 ∧ Y.v.root ≤ b) ∨ (Y.place < 0 ∧ rootsTo Y.place j = 0 ∧ Y.v.root ≤ b) := by
        rcases hY.out with h | ⟨i, h0, h, h1, h2, h3⟩
        · right
          rw [h]
          exact ⟨by simp, by simp [rootsTo], Int.le_refl _⟩
        · left
          rw [h]
          refine ⟨by simp [wayOf], ?_, Int.le_of_lt (lead_root h3).1⟩
          unfold rootsTo
          rw [if_pos (by simp [wayOf]; omega)]
      generalize rootsTo Y.place j = R at *
      rcases hfin with ⟨f1, rfl, f2⟩ | ⟨f1, rfl, f2⟩
      · go_wp2
        go_ret
        refine ⟨ret_bool ?_, hBr.out⟩
        simp
      · go_wp2
        go_ret
        refine ⟨ret_bool ?_, hBr.out⟩
        simp
        omega
end Go.Proofs.Ytaepjiakehkeoaa
