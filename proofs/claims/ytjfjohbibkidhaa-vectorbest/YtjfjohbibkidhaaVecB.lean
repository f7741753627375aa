/-
  VectorBest, walked. Conditions: those that each theorem names.
-/
import Derived.Test.YtjfjohbibkidhaaVecR
namespace Go.Proofs.Ytjfjohbibkidhaa
open Go.RowKit
set_option linter.unusedVariables false

theorem bet_irr (a : Vc) : betB a a = false := by
  cases h : betB a a
  · rfl
  · rw [bet_iff] at h; omega
theorem bet_asym (a b : Vc) (h : betB a b = true) : betB b a = false := by
  cases h' : betB b a
  · rfl
  · rw [bet_iff] at h h'; omega
theorem bet_mid (a b c : Vc) (h : betB a b = true) (h' : betB c b = false) : betB a c = true := by
  have h2 : ¬ betB c b = true := by rw [h']; simp
  rw [bet_iff] at *
  omega
/-- The best is none of which another one is better, and better than all ahead of it. -/
theorem bestN_is (vs : List Vc) : ∀ j : Nat, 0 < j → ∃ t : Nat, bestN vs j = t ∧ t < j ∧ (∀ k, k < j → betB (vs.getD k Vc.zero) (vs.getD t Vc.zero) = false) ∧ ∀ k, k < t → betB (vs.getD t Vc.zero) (vs.getD k Vc.zero) = true
  | 0, h => by omega
  | 1, _ => by
    refine ⟨0, by simp [bestN], by omega, fun k hk => ?_, fun k hk => by omega⟩
    obtain rfl : k = 0 := by omega
    exact bet_irr _
  | j + 2, _ => by
    obtain ⟨t, h1, h2, h3, h4⟩ := bestN_is vs (j + 1) (by omega)
    rw [bestN, h1]
    simp only [Int.toNat_natCast]
    by_cases hb : betB (vs.getD (j + 1) Vc.zero) (vs.getD t Vc.zero) = true
    · rw [if_pos (.inr hb)]
      refine ⟨j + 1, by simp, by omega, fun k hk => ?_, fun k hk => ?_⟩
      · by_cases e : k = j + 1
        · rw [e]; exact bet_irr _
        · exact bet_asym _ _ (bet_mid _ _ _ hb (h3 k (by omega)))
      · exact bet_mid _ _ _ hb (h3 k (by omega))
    · rw [if_neg (by simp only [not_or]; exact ⟨by omega, hb⟩)]
      refine ⟨t, rfl, by omega, fun k hk => ?_, h4⟩
      by_cases e : k = j + 1
      · rw [e]; simpa using hb
      · exact h3 k (by omega)
theorem Best_walk (a : Option Addr) (n cap : Nat) (vs : List Vc) (w : World) (hm : n ≤ maxLen) (hI : Vcs w a n vs) : Calls Try.prog 8 #[.slice a n cap] w fun r w' => r = .returned (.bool true) ∧ Below w.heap.size w w' := by
  have hO := hide (fun w => orders_any w)
  have hI := hide hI
  have hm' : Hid (n ≤ maxLen) := hm
  have hn63 : n ≤ 9223372036854775807 := by simp only [maxLen] at hm; omega
  clear hm
  go_enter Try.func8, Try.ntmps8
  go_wp2_with fail
  refine (hO.out _).mono ?_
  rintro e w1 ⟨rfl, hb1⟩
  replace hI := hide (hI.out.below hb1)
  have hB := hide hb1
  clear hb1 hO
  by_cases hbig : 200 < n
  · go_wp2
    go_ret
    exact ⟨rfl, hB.out⟩
  · go_wp2_with fail
    refine (Best_any a n cap vs _ (by omega) hI).mono ?_
    rintro e w2 ⟨rfl, hb2⟩
    replace hI := hide (hI.out.below hb2)
    replace hB := hide (hB.out.later hb2)
    clear hb2
    by_cases hz : n = 0
    · have hN : bestN vs n = -1 := by rw [hz]; rfl
      rw [hN]
      go_wp2
      go_ret
      exact ⟨rfl, hB.out⟩
    · obtain ⟨t, h1, h2, h3, h4⟩ := bestN_is vs n (by omega)
      have H3 := hide h3
      have H4 := hide h4
      rw [h1]
      clear h1 h3 h4
      have q4 : ((n : Int) == 0) = false := by
        rw [beq_eq_false_iff_ne]
        omega
      have q1 : decide ((t : Int) < 0) = false := decide_eq_false (by omega)
      have q2 : decide (n ≤ t) = false := decide_eq_false (by omega)
      have q3 : decide ((n : Int) ≤ t) = false := decide_eq_false (by omega)
      go_wp2
      go_loopw [28] (fun i wr => ∃ j : Nat, j ≤ n ∧ i = .int .i64 j ∧ Hid (Below w.heap.size w wr) ∧ Hid (Vcs wr a n vs)) (fun i _ => n - (intOf i).toNat)
      case atStart => exact ⟨0, Nat.zero_le _, rfl, hB, hI⟩
      case round =>
        obtain ⟨j, hj, rfl, hBr, hIr⟩ := hrel
        by_cases hlt : j < n
        · obtain ⟨b, off, rfl, c0, c1, c2, c3, hwf⟩ := hIr.out j hlt
          obtain ⟨b', off', hbo, d0, d1, d2, d3, hwf'⟩ := hIr.out t h2
          simp only [Option.some.injEq, Addr.mk.injEq, and_true] at hbo
          obtain ⟨rfl, rfl⟩ := hbo
          have hBt := hide (fun w => Better_any (vs.getD j Vc.zero) (vs.getD t Vc.zero) w)
          rw [H3.out j hlt] at hBt
          have heq := vec_eql _ _ hwf hwf'
          have hne : j < t → decide (vs.getD j Vc.zero = vs.getD t Vc.zero) = false := fun h => decide_eq_false fun e => by
            have h5 := H4.out j h
            rw [e, bet_irr] at h5
            cases h5
          have hne := hide hne
          have hgd := eqGuard_vec
          generalize decide (vs.getD j Vc.zero = vs.getD t Vc.zero) = E at *
          generalize vs.getD j Vc.zero = X at *
          generalize vs.getD t Vc.zero = Y at *
          obtain ⟨x0, x1, x2, x3⟩ := X
          obtain ⟨y0, y1, y2, y3⟩ := Y
          dsimp only at *
          go_wp2_with fail
          have hl := block_lt_of_cell d0
          have hb1 : Below wr.heap.size wr (wr.alloc (.cells #[.int .u64 x0, .int .u64 x1, .int .u64 x2, .int .i64 x3] 45)).drew := below_drewN (below1 wr _) 1
          have hN : (wr.alloc (.cells #[.int .u64 x0, .int .u64 x1, .int .u64 x2, .int .i64 x3] 45)).drew.heap[wr.heap.size]? = some (.cells #[.int .u64 x0, .int .u64 x1, .int .u64 x2, .int .i64 x3] 45) := heap_alloc_new wr _
          have hS : Hid (∀ W : World, Below wr.heap.size wr W → W.heap[wr.heap.size]? = some (.cells #[.int .u64 x0, .int .u64 x1, .int .u64 x2, .int .i64 x3] 45) → W.cell? ⟨wr.heap.size, 0, none⟩ = some (.int .u64 x0) ∧ W.cell? ⟨wr.heap.size, 1, none⟩ = some (.int .u64 x1) ∧ W.cell? ⟨wr.heap.size, 2, none⟩ = some (.int .u64 x2) ∧ W.cell? ⟨wr.heap.size, 3, none⟩ = some (.int .i64 x3) ∧ W.cell? ⟨b, off + t * 4, none⟩ = some (.int .u64 y0) ∧ W.cell? ⟨b, off + t * 4 + 1, none⟩ = some (.int .u64 y1) ∧ W.cell? ⟨b, off + t * 4 + 2, none⟩ = some (.int .u64 y2) ∧ W.cell? ⟨b, off + t * 4 + 3, none⟩ = some (.int .i64 y3)) := by
            intro W h h'
            exact ⟨(cell_of_row _ _ _ _ _ _ h').trans rfl, (cell_of_row _ _ _ _ _ _ h').trans rfl, (cell_of_row _ _ _ _ _ _ h').trans rfl, (cell_of_row _ _ _ _ _ _ h').trans rfl,
              (h.cell (p := ⟨b, off + t * 4, none⟩) hl).trans d0, (h.cell (p := ⟨b, off + t * 4 + 1, none⟩) hl).trans d1, (h.cell (p := ⟨b, off + t * 4 + 2, none⟩) hl).trans d2, (h.cell (p := ⟨b, off + t * 4 + 3, none⟩) hl).trans d3⟩
          refine wp_region_noPanic ?_
          refine wp_region_held_drew (S := fun W => W.cell? ⟨wr.heap.size, 0, none⟩ = some (.int .u64 x0) ∧ W.cell? ⟨wr.heap.size, 1, none⟩ = some (.int .u64 x1) ∧ W.cell? ⟨wr.heap.size, 2, none⟩ = some (.int .u64 x2) ∧ W.cell? ⟨wr.heap.size, 3, none⟩ = some (.int .i64 x3) ∧ W.cell? ⟨b, off + t * 4, none⟩ = some (.int .u64 y0) ∧ W.cell? ⟨b, off + t * 4 + 1, none⟩ = some (.int .u64 y1) ∧ W.cell? ⟨b, off + t * 4 + 2, none⟩ = some (.int .u64 y2) ∧ W.cell? ⟨b, off + t * 4 + 3, none⟩ = some (.int .i64 y3)) (by kernel_rfl) (hS.out _ hb1 hN) (fun hHeld => ?_)
          refine wpAnyH_take (i := 0) (oi := { dst := some 33, op := Op.load 45 (Operand.tmp 5), type := 45, pos := "law.go:80", after := #[], guard := none }) (v := ?v1) rfl (by kernel_rfl) (by kernel_rfl) (by kernel_rfl) (fun _ _ _ h => h) (Or.inl ⟨by rfl, ?y1⟩) (by assumption) ?r1
          case y1 => (intro w hSw; (try dsimp only at hSw); (try (go_split_ands)); go_simp; try with_reducible rfl)
          try simp only [Act.put, List.setIfInBounds_toArray, List.set_cons_zero, List.set_cons_succ]
          refine wpAnyH_take (i := 1) (oi := { dst := some 34, op := Op.move (Operand.tmp 0), type := 51, pos := "law.go:80", after := #[], guard := none }) (v := ?v2) rfl (by kernel_rfl) (by kernel_rfl) (by kernel_rfl) (fun _ _ _ h => h) (Or.inl ⟨by rfl, ?y2⟩) (by assumption) ?r2
          case y2 => (intro w hSw; (try dsimp only at hSw); (try (go_split_ands)); go_simp; try with_reducible rfl)
          try simp only [Act.put, List.setIfInBounds_toArray, List.set_cons_zero, List.set_cons_succ]
          refine wpAnyH_take (i := 2) (oi := { dst := some 35, op := Op.move (Operand.tmp 3), type := 3, pos := "law.go:80", after := #[], guard := none }) (v := ?v3) rfl (by kernel_rfl) (by kernel_rfl) (by kernel_rfl) (fun _ _ _ h => h) (Or.inl ⟨by rfl, ?y3⟩) (by assumption) ?r3
          case y3 => (intro w hSw; (try dsimp only at hSw); (try (go_split_ands)); go_simp; try with_reducible rfl)
          try simp only [Act.put, List.setIfInBounds_toArray, List.set_cons_zero, List.set_cons_succ]
          refine wpAnyH_take (i := 3) (oi := { dst := some 36, op := Op.indexAddr 51 (Operand.tmp 34) (Operand.tmp 35), type := 0, pos := "law.go:80", after := #[{ on := 1, ground := Ground.data }, { on := 2, ground := Ground.data }], guard := none }) (v := ?v4) rfl (by kernel_rfl) (by kernel_rfl) (by kernel_rfl) (fun _ _ _ h => h) (Or.inl ⟨by rfl, ?y4⟩) (by assumption) ?r4
          case y4 => (intro w hSw; (try dsimp only at hSw); (try (go_split_ands)); go_simp; try with_reducible rfl)
          try simp only [Act.put, List.setIfInBounds_toArray, List.set_cons_zero, List.set_cons_succ]
          refine wpAnyH_take (i := 4) (oi := { dst := some 37, op := Op.load 45 (Operand.tmp 36), type := 45, pos := "law.go:80", after := #[{ on := 3, ground := Ground.data }], guard := none }) (v := ?v5) rfl (by kernel_rfl) (by kernel_rfl) (by kernel_rfl) (fun _ _ _ h => h) (Or.inl ⟨by rfl, ?y5⟩) (by assumption) ?r5
          case y5 => (intro w hSw; (try dsimp only at hSw); (try (go_split_ands)); go_simp; try with_reducible rfl)
          try simp only [Act.put, List.setIfInBounds_toArray, List.set_cons_zero, List.set_cons_succ]
          refine wpAnyH_ready (rs := [5]) (by kernel_rfl) (by simp) ?_
          refine AllReadyH.cons (o := { dst := some 38, op := Op.call { callee := Callee.value (Operand.func 27), args := #[Operand.tmp 33, Operand.tmp 37], argTypes := #[45, 45] }, type := 4, pos := "law.go:80", after := #[{ on := 0, ground := Ground.data }, { on := 4, ground := Ground.data }], guard := none }) rfl (fun K hK => ?_) AllReadyH.nil
          go_simp
          refine (hBt.out _).mono ?_
          rintro e w3 ⟨rfl, hb3⟩
          have hb4 : Below wr.heap.size wr w3 := hb1.later hb3
          have hN3 := heap_kept hb3 hN
          go_wp2_with fail
          refine hK.out _ _ ?_ (fun hHeld5 => ?_)
          · exact hS.out _ hb4 hN3
          clear hK K
          try simp only [Act.put, List.setIfInBounds_toArray, List.set_cons_zero, List.set_cons_succ]
          have hI3 := hide (hIr.out.below hb4)
          have hB3 := hide (hBr.out.later hb4)
          by_cases hjt : j < t
          · have hE := hne.out hjt
            clear hne
            subst hE
            have hd : decide (j < t) = true := decide_eq_true hjt
            refine wpAnyH_take (i := 6) (oi := { dst := some 39, op := Op.move (Operand.tmp 38), type := 4, pos := "law.go:80", after := #[{ on := 5, ground := Ground.data }, { on := 5, ground := Ground.chain }], guard := none }) (v := ?v6) rfl (by kernel_rfl) (by kernel_rfl) (by kernel_rfl) (fun _ _ _ h => h) (Or.inl ⟨by rfl, ?y6⟩) (by assumption) ?r6
            case y6 => (intro w hSw; (try dsimp only at hSw); (try (go_split_ands)); go_simp; try with_reducible rfl)
            try simp only [Act.put, List.setIfInBounds_toArray, List.set_cons_zero, List.set_cons_succ]
            refine wpAnyH_take (i := 7) (oi := { dst := some 40, op := Op.move (Operand.tmp 4), type := 3, pos := "law.go:80", after := #[{ on := 6, ground := Ground.guard }], guard := some (6, false) }) (v := ?v7) rfl (by kernel_rfl) (by kernel_rfl) (by kernel_rfl) (fun _ _ _ h => h) (Or.inl ⟨by rfl, ?y7⟩) (by assumption) ?r7
            case y7 => (intro w hSw; (try dsimp only at hSw); (try (go_split_ands)); go_simp; try with_reducible rfl)
            try simp only [Act.put, List.setIfInBounds_toArray, List.set_cons_zero, List.set_cons_succ]
            refine wpAnyH_take (i := 8) (oi := { dst := some 41, op := Op.move (Operand.tmp 3), type := 3, pos := "law.go:80", after := #[{ on := 6, ground := Ground.guard }], guard := some (6, false) }) (v := ?v8) rfl (by kernel_rfl) (by kernel_rfl) (by kernel_rfl) (fun _ _ _ h => h) (Or.inl ⟨by rfl, ?y8⟩) (by assumption) ?r8
            case y8 => (intro w hSw; (try dsimp only at hSw); (try (go_split_ands)); go_simp; try with_reducible rfl)
            try simp only [Act.put, List.setIfInBounds_toArray, List.set_cons_zero, List.set_cons_succ]
            refine wpAnyH_take (i := 9) (oi := { dst := some 42, op := Op.binOp BinOp.lss 3 (Operand.tmp 40) (Operand.tmp 41) 3, type := 4, pos := "law.go:80", after := #[{ on := 7, ground := Ground.data }, { on := 8, ground := Ground.data }, { on := 6, ground := Ground.guard }], guard := some (6, false) }) (v := ?v9) rfl (by kernel_rfl) (by kernel_rfl) (by kernel_rfl) (fun _ _ _ h => h) (Or.inl ⟨by rfl, ?y9⟩) (by assumption) ?r9
            case y9 => (intro w hSw; (try dsimp only at hSw); (try (go_split_ands)); go_simp; try with_reducible rfl)
            try simp only [Act.put, List.setIfInBounds_toArray, List.set_cons_zero, List.set_cons_succ]
            refine wpAnyH_take (i := 10) (oi := { dst := some 43, op := Op.move (Operand.tmp 42), type := 4, pos := "law.go:80", after := #[{ on := 9, ground := Ground.data }, { on := 6, ground := Ground.chain }, { on := 6, ground := Ground.guard }], guard := some (6, false) }) (v := ?v10) rfl (by kernel_rfl) (by kernel_rfl) (by kernel_rfl) (fun _ _ _ h => h) (Or.inl ⟨by rfl, ?y10⟩) (by assumption) ?r10
            case y10 => (intro w hSw; (try dsimp only at hSw); (try (go_split_ands)); go_simp; try with_reducible rfl)
            try simp only [Act.put, List.setIfInBounds_toArray, List.set_cons_zero, List.set_cons_succ]
            refine wpAnyH_take (i := 11) (oi := { dst := some 44, op := Op.load 45 (Operand.tmp 5), type := 45, pos := "law.go:80", after := #[{ on := 10, ground := Ground.guard }], guard := some (10, true) }) (v := ?v11) rfl (by kernel_rfl) (by kernel_rfl) (by kernel_rfl) (fun _ _ _ h => h) (Or.inl ⟨by rfl, ?y11⟩) (by assumption) ?r11
            case y11 => (intro w hSw; (try dsimp only at hSw); (try (go_split_ands)); go_simp; try with_reducible rfl)
            try simp only [Act.put, List.setIfInBounds_toArray, List.set_cons_zero, List.set_cons_succ]
            refine wpAnyH_take (i := 12) (oi := { dst := some 45, op := Op.move (Operand.tmp 0), type := 51, pos := "law.go:80", after := #[{ on := 10, ground := Ground.guard }], guard := some (10, true) }) (v := ?v12) rfl (by kernel_rfl) (by kernel_rfl) (by kernel_rfl) (fun _ _ _ h => h) (Or.inl ⟨by rfl, ?y12⟩) (by assumption) ?r12
            case y12 => (intro w hSw; (try dsimp only at hSw); (try (go_split_ands)); go_simp; try with_reducible rfl)
            try simp only [Act.put, List.setIfInBounds_toArray, List.set_cons_zero, List.set_cons_succ]
            refine wpAnyH_take (i := 13) (oi := { dst := some 46, op := Op.move (Operand.tmp 3), type := 3, pos := "law.go:80", after := #[{ on := 10, ground := Ground.guard }], guard := some (10, true) }) (v := ?v13) rfl (by kernel_rfl) (by kernel_rfl) (by kernel_rfl) (fun _ _ _ h => h) (Or.inl ⟨by rfl, ?y13⟩) (by assumption) ?r13
            case y13 => (intro w hSw; (try dsimp only at hSw); (try (go_split_ands)); go_simp; try with_reducible rfl)
            try simp only [Act.put, List.setIfInBounds_toArray, List.set_cons_zero, List.set_cons_succ]
            refine wpAnyH_take (i := 14) (oi := { dst := some 47, op := Op.indexAddr 51 (Operand.tmp 45) (Operand.tmp 46), type := 0, pos := "law.go:80", after := #[{ on := 12, ground := Ground.data }, { on := 13, ground := Ground.data }, { on := 10, ground := Ground.guard }], guard := some (10, true) }) (v := ?v14) rfl (by kernel_rfl) (by kernel_rfl) (by kernel_rfl) (fun _ _ _ h => h) (Or.inl ⟨by rfl, ?y14⟩) (by assumption) ?r14
            case y14 => (intro w hSw; (try dsimp only at hSw); (try (go_split_ands)); go_simp; try with_reducible rfl)
            try simp only [Act.put, List.setIfInBounds_toArray, List.set_cons_zero, List.set_cons_succ]
            refine wpAnyH_take (i := 15) (oi := { dst := some 48, op := Op.load 45 (Operand.tmp 47), type := 45, pos := "law.go:80", after := #[{ on := 14, ground := Ground.data }, { on := 10, ground := Ground.guard }], guard := some (10, true) }) (v := ?v15) rfl (by kernel_rfl) (by kernel_rfl) (by kernel_rfl) (fun _ _ _ h => h) (Or.inl ⟨by rfl, ?y15⟩) (by assumption) ?r15
            case y15 => (intro w hSw; (try dsimp only at hSw); (try (go_split_ands)); go_simp; try with_reducible rfl)
            try simp only [Act.put, List.setIfInBounds_toArray, List.set_cons_zero, List.set_cons_succ]
            refine wpAnyH_take (i := 16) (oi := { dst := some 49, op := Op.binOp BinOp.eql 45 (Operand.tmp 44) (Operand.tmp 48) 45, type := 4, pos := "law.go:80", after := #[{ on := 11, ground := Ground.data }, { on := 15, ground := Ground.data }, { on := 10, ground := Ground.guard }], guard := some (10, true) }) (v := ?v16) rfl (by kernel_rfl) (by kernel_rfl) (by kernel_rfl) (fun _ _ _ h => h) (Or.inl ⟨by rfl, ?y16⟩) (by assumption) ?r16
            case y16 => (intro w hSw; (try dsimp only at hSw); (try (go_split_ands)); go_simp; try with_reducible rfl)
            try simp only [Act.put, List.setIfInBounds_toArray, List.set_cons_zero, List.set_cons_succ]
            refine wpAnyH_take (i := 17) (oi := { dst := some 50, op := Op.pick (Operand.tmp 43) (Operand.tmp 49) (Operand.const (Value.bool false)), type := 4, pos := "law.go:80", after := #[{ on := 10, ground := Ground.data }, { on := 16, ground := Ground.data }, { on := 6, ground := Ground.guard }], guard := some (6, false) }) (v := ?v17) rfl (by kernel_rfl) (by kernel_rfl) (by kernel_rfl) (fun _ _ _ h => h) (Or.inl ⟨by rfl, ?y17⟩) (by assumption) ?r17
            case y17 => (intro w hSw; (try dsimp only at hSw); (try (go_split_ands)); go_simp; try with_reducible rfl)
            try simp only [Act.put, List.setIfInBounds_toArray, List.set_cons_zero, List.set_cons_succ]
            refine wpAnyH_take (i := 18) (oi := { dst := some 51, op := Op.pick (Operand.tmp 39) (Operand.const (Value.bool true)) (Operand.tmp 50), type := 4, pos := "law.go:80", after := #[{ on := 6, ground := Ground.data }, { on := 17, ground := Ground.data }], guard := none }) (v := ?v18) rfl (by kernel_rfl) (by kernel_rfl) (by kernel_rfl) (fun _ _ _ h => h) (Or.inl ⟨by rfl, ?y18⟩) (by assumption) ?r18
            case y18 => (intro w hSw; (try dsimp only at hSw); (try (go_split_ands)); go_simp; try with_reducible rfl)
            try simp only [Act.put, List.setIfInBounds_toArray, List.set_cons_zero, List.set_cons_succ]
            refine wpAnyH_done (by kernel_rfl) ?_ _
            refine NoPanic.normal ?_
            go_wp2
            go_round
            case rel => exact ⟨j + 1, by omega, by go_num, hB3, hI3⟩
            case measure => simp [intOf]; omega
          · have hd : decide (j < t) = false := decide_eq_false hjt
            refine wpAnyH_take (i := 6) (oi := { dst := some 39, op := Op.move (Operand.tmp 38), type := 4, pos := "law.go:80", after := #[{ on := 5, ground := Ground.data }, { on := 5, ground := Ground.chain }], guard := none }) (v := ?v19) rfl (by kernel_rfl) (by kernel_rfl) (by kernel_rfl) (fun _ _ _ h => h) (Or.inl ⟨by rfl, ?y19⟩) (by assumption) ?r19
            case y19 => (intro w hSw; (try dsimp only at hSw); (try (go_split_ands)); go_simp; try with_reducible rfl)
            try simp only [Act.put, List.setIfInBounds_toArray, List.set_cons_zero, List.set_cons_succ]
            refine wpAnyH_take (i := 7) (oi := { dst := some 40, op := Op.move (Operand.tmp 4), type := 3, pos := "law.go:80", after := #[{ on := 6, ground := Ground.guard }], guard := some (6, false) }) (v := ?v20) rfl (by kernel_rfl) (by kernel_rfl) (by kernel_rfl) (fun _ _ _ h => h) (Or.inl ⟨by rfl, ?y20⟩) (by assumption) ?r20
            case y20 => (intro w hSw; (try dsimp only at hSw); (try (go_split_ands)); go_simp; try with_reducible rfl)
            try simp only [Act.put, List.setIfInBounds_toArray, List.set_cons_zero, List.set_cons_succ]
            refine wpAnyH_take (i := 8) (oi := { dst := some 41, op := Op.move (Operand.tmp 3), type := 3, pos := "law.go:80", after := #[{ on := 6, ground := Ground.guard }], guard := some (6, false) }) (v := ?v21) rfl (by kernel_rfl) (by kernel_rfl) (by kernel_rfl) (fun _ _ _ h => h) (Or.inl ⟨by rfl, ?y21⟩) (by assumption) ?r21
            case y21 => (intro w hSw; (try dsimp only at hSw); (try (go_split_ands)); go_simp; try with_reducible rfl)
            try simp only [Act.put, List.setIfInBounds_toArray, List.set_cons_zero, List.set_cons_succ]
            refine wpAnyH_take (i := 9) (oi := { dst := some 42, op := Op.binOp BinOp.lss 3 (Operand.tmp 40) (Operand.tmp 41) 3, type := 4, pos := "law.go:80", after := #[{ on := 7, ground := Ground.data }, { on := 8, ground := Ground.data }, { on := 6, ground := Ground.guard }], guard := some (6, false) }) (v := ?v22) rfl (by kernel_rfl) (by kernel_rfl) (by kernel_rfl) (fun _ _ _ h => h) (Or.inl ⟨by rfl, ?y22⟩) (by assumption) ?r22
            case y22 => (intro w hSw; (try dsimp only at hSw); (try (go_split_ands)); go_simp; try with_reducible rfl)
            try simp only [Act.put, List.setIfInBounds_toArray, List.set_cons_zero, List.set_cons_succ]
            refine wpAnyH_take (i := 10) (oi := { dst := some 43, op := Op.move (Operand.tmp 42), type := 4, pos := "law.go:80", after := #[{ on := 9, ground := Ground.data }, { on := 6, ground := Ground.chain }, { on := 6, ground := Ground.guard }], guard := some (6, false) }) (v := ?v23) rfl (by kernel_rfl) (by kernel_rfl) (by kernel_rfl) (fun _ _ _ h => h) (Or.inl ⟨by rfl, ?y23⟩) (by assumption) ?r23
            case y23 => (intro w hSw; (try dsimp only at hSw); (try (go_split_ands)); go_simp; try with_reducible rfl)
            try simp only [Act.put, List.setIfInBounds_toArray, List.set_cons_zero, List.set_cons_succ]
            refine wpAnyH_take (i := 11) (oi := { dst := some 44, op := Op.load 45 (Operand.tmp 5), type := 45, pos := "law.go:80", after := #[{ on := 10, ground := Ground.guard }], guard := some (10, true) }) (v := undef) rfl (by kernel_rfl) (by kernel_rfl) (by kernel_rfl) (fun _ _ _ h => h) (Or.inr ⟨by rfl, rfl⟩) (by assumption) ?_
            try simp only [Act.put, List.setIfInBounds_toArray, List.set_cons_zero, List.set_cons_succ]
            refine wpAnyH_take (i := 12) (oi := { dst := some 45, op := Op.move (Operand.tmp 0), type := 51, pos := "law.go:80", after := #[{ on := 10, ground := Ground.guard }], guard := some (10, true) }) (v := undef) rfl (by kernel_rfl) (by kernel_rfl) (by kernel_rfl) (fun _ _ _ h => h) (Or.inr ⟨by rfl, rfl⟩) (by assumption) ?_
            try simp only [Act.put, List.setIfInBounds_toArray, List.set_cons_zero, List.set_cons_succ]
            refine wpAnyH_take (i := 13) (oi := { dst := some 46, op := Op.move (Operand.tmp 3), type := 3, pos := "law.go:80", after := #[{ on := 10, ground := Ground.guard }], guard := some (10, true) }) (v := undef) rfl (by kernel_rfl) (by kernel_rfl) (by kernel_rfl) (fun _ _ _ h => h) (Or.inr ⟨by rfl, rfl⟩) (by assumption) ?_
            try simp only [Act.put, List.setIfInBounds_toArray, List.set_cons_zero, List.set_cons_succ]
            refine wpAnyH_take (i := 14) (oi := { dst := some 47, op := Op.indexAddr 51 (Operand.tmp 45) (Operand.tmp 46), type := 0, pos := "law.go:80", after := #[{ on := 12, ground := Ground.data }, { on := 13, ground := Ground.data }, { on := 10, ground := Ground.guard }], guard := some (10, true) }) (v := undef) rfl (by kernel_rfl) (by kernel_rfl) (by kernel_rfl) (fun _ _ _ h => h) (Or.inr ⟨by rfl, rfl⟩) (by assumption) ?_
            try simp only [Act.put, List.setIfInBounds_toArray, List.set_cons_zero, List.set_cons_succ]
            refine wpAnyH_take (i := 15) (oi := { dst := some 48, op := Op.load 45 (Operand.tmp 47), type := 45, pos := "law.go:80", after := #[{ on := 14, ground := Ground.data }, { on := 10, ground := Ground.guard }], guard := some (10, true) }) (v := undef) rfl (by kernel_rfl) (by kernel_rfl) (by kernel_rfl) (fun _ _ _ h => h) (Or.inr ⟨by rfl, rfl⟩) (by assumption) ?_
            try simp only [Act.put, List.setIfInBounds_toArray, List.set_cons_zero, List.set_cons_succ]
            refine wpAnyH_take (i := 16) (oi := { dst := some 49, op := Op.binOp BinOp.eql 45 (Operand.tmp 44) (Operand.tmp 48) 45, type := 4, pos := "law.go:80", after := #[{ on := 11, ground := Ground.data }, { on := 15, ground := Ground.data }, { on := 10, ground := Ground.guard }], guard := some (10, true) }) (v := undef) rfl (by kernel_rfl) (by kernel_rfl) (by kernel_rfl) (fun _ _ _ h => h) (Or.inr ⟨by rfl, rfl⟩) (by assumption) ?_
            try simp only [Act.put, List.setIfInBounds_toArray, List.set_cons_zero, List.set_cons_succ]
            refine wpAnyH_take (i := 17) (oi := { dst := some 50, op := Op.pick (Operand.tmp 43) (Operand.tmp 49) (Operand.const (Value.bool false)), type := 4, pos := "law.go:80", after := #[{ on := 10, ground := Ground.data }, { on := 16, ground := Ground.data }, { on := 6, ground := Ground.guard }], guard := some (6, false) }) (v := ?v24) rfl (by kernel_rfl) (by kernel_rfl) (by kernel_rfl) (fun _ _ _ h => h) (Or.inl ⟨by rfl, ?y24⟩) (by assumption) ?r24
            case y24 => (intro w hSw; (try dsimp only at hSw); (try (go_split_ands)); go_simp; try with_reducible rfl)
            try simp only [Act.put, List.setIfInBounds_toArray, List.set_cons_zero, List.set_cons_succ]
            refine wpAnyH_take (i := 18) (oi := { dst := some 51, op := Op.pick (Operand.tmp 39) (Operand.const (Value.bool true)) (Operand.tmp 50), type := 4, pos := "law.go:80", after := #[{ on := 6, ground := Ground.data }, { on := 17, ground := Ground.data }], guard := none }) (v := ?v25) rfl (by kernel_rfl) (by kernel_rfl) (by kernel_rfl) (fun _ _ _ h => h) (Or.inl ⟨by rfl, ?y25⟩) (by assumption) ?r25
            case y25 => (intro w hSw; (try dsimp only at hSw); (try (go_split_ands)); go_simp; try with_reducible rfl)
            try simp only [Act.put, List.setIfInBounds_toArray, List.set_cons_zero, List.set_cons_succ]
            refine wpAnyH_done (by kernel_rfl) ?_ _
            refine NoPanic.normal ?_
            go_wp2
            go_round
            case rel => exact ⟨j + 1, by omega, by go_num, hB3, hI3⟩
            case measure => simp [intOf]; omega
        · go_wp2
          go_ret
          exact ⟨rfl, hBr.out⟩
end Go.Proofs.Ytjfjohbibkidhaa
