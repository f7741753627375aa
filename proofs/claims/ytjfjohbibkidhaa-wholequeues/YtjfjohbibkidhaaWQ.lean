/-
  WholeQueues, walked. Conditions: those that each theorem names.
-/
import Derived.Test.YtjfjohbibkidhaaRingR
import Derived.Test.YtjfjohbibkidhaaVec2
namespace Go.Proofs.Ytjfjohbibkidhaa
open Go.RowKit
set_option linter.unusedVariables false

theorem one_vcs (w : World) : Hid (Vcs (w.alloc (.cells #[.int .u64 0, .int .u64 0, .int .u64 0, .int .i64 0] 45)) (some ⟨w.heap.size, 0, none⟩) 1 [Vc.zero]) := by
  have hN := heap_alloc_new w (.cells #[.int .u64 0, .int .u64 0, .int .u64 0, .int .i64 0] 45)
  intro i hi
  obtain rfl : i = 0 := by omega
  exact ⟨w.heap.size, 0, rfl, (cell_of_row _ _ _ _ _ _ hN).trans rfl, (cell_of_row _ _ _ _ _ _ hN).trans rfl, (cell_of_row _ _ _ _ _ _ hN).trans rfl, (cell_of_row _ _ _ _ _ _ hN).trans rfl, ⟨by unfold U64; decide, by unfold U64; decide, by unfold U64; decide, by unfold I64; decide⟩⟩
@[reducible] def qb : Nat → Nat := fun k => bndN ([100, 0, 0, 0, 0, 0, 0, 0].getD k 0)
@[reducible] def qf0 : Nat → List Int := fun _ => []
@[reducible] def qf1 : Nat → List Int := updN qf0 0 [1]
@[reducible] def ql : Nat → Nat := fun _ => 0
theorem WQ_walk (a : Option Addr) (n cap : Nat) (vs : List Vc) (w : World) (hm : n ≤ maxLen) (hI : Vcs w a n vs) : Calls Try.prog 13 #[.slice a n cap] w fun r w' => r = .returned (.bool true) ∧ Below w.heap.size w w' := by
  replace hI := hide hI
  have hn63 : n ≤ 9223372036854775807 := by simp only [maxLen] at hm; omega
  clear hm
  have k0 := hide (RNew w w (Below.refl _ _) 100 0 0 0 0 0 0 0)
  have k1 := hide (fun (g : Nat) (w' : World) (h : Rg w w' g qf0 qb ql) => (RPush_ok h 0 (by decide) 1 (by decide) (by decide) : Calls Try.prog 16 #[.pointer (some ⟨g, 0, none⟩), .int .i64 0, .int .i64 1] w' fun e w2 => e = .returned (.int .i64 0) ∧ Rg w w2 g qf1 qb ql))
  have k2 := hide (fun (w' : World) => Best_any (some ⟨w'.heap.size, 0, none⟩) 1 1 [Vc.zero] (w'.alloc (.cells #[.int .u64 0, .int .u64 0, .int .u64 0, .int .i64 0] 45)) (by omega) (one_vcs w'))
  rw [show bestN [Vc.zero] 1 = 0 by decide] at k2
  have k3 := hide (fun (g : Nat) (w' : World) (h : Rg w w' g qf1 qb ql) => (RFlush h (by decide) : Calls Try.prog 19 #[.pointer (some ⟨g, 0, none⟩)] w' fun e w2 => ∃ a c, e = .returned (.slice a 1 c) ∧ Qe w2 (.slice a 1 c) [1] ∧ Rg w w2 g qf0 qb ql))
  go_enter Try.func13, Try.ntmps13
  go_wp2_with fail
  refine k0.out.mono ?_
  rintro e w1 ⟨rfl, h⟩
  replace h := hide h
  generalize w.heap.size + 1 = g at *
  go_wp2_with fail
  refine (k1.out _ _ h.out).mono ?_
  rintro e w2 ⟨rfl, h2⟩
  replace h := hide h2
  clear h2
  go_wp2_with fail
  refine (k2.out _).mono ?_
  rintro e w3 ⟨rfl, hb3⟩
  replace h := hide (h.out.below ((below1 _ _).later hb3))
  clear hb3
  go_wp2_with fail
  refine (k3.out _ _ h.out).mono ?_
  rintro e w4 ⟨fa, fc, rfl, _, h4⟩
  replace h := hide h4
  clear h4 k0 k1 k2 k3
  have hb0 : Hid (qb 0 = 100) := by show _ = _; decide
  have hR0 : Hid (Rg w w4 g (updN qf0 0 (seg 0 0)) qb ql) := by
    rw [seg_nil, show updN qf0 0 [] = qf0 from updN_self qf0 0]
    exact h
  clear h
  generalize qb = bb at *
  by_cases hbig : 100 < n
  · go_wp2
    go_ret
    exact ⟨rfl, hR0.out.bel⟩
  · have q1 : decide (100 < (n : Int)) = false := decide_eq_false (by omega)
    go_wp2
    go_loopw [30] (fun i wr => ∃ j : Nat, j ≤ n ∧ i = .int .i64 j ∧ Hid (Rg w wr g (updN qf0 0 (seg 0 j)) bb ql)) (fun i _ => n - (intOf i).toNat)
    case atStart => exact ⟨0, Nat.zero_le _, rfl, hR0⟩
    case round =>
      obtain ⟨j, hj, rfl, hR⟩ := hrel
      by_cases hlt : j < n
      · have k1 := hide (RPush_at 0 (by decide) (seg 0 j) hR.out (j : Int) (by rw [seg_len, hb0.out]; omega) (by rw [hb0.out]; decide))
        rw [← seg_push 0 j (Nat.zero_le _)] at k1
        go_wp2_with fail
        refine k1.out.mono ?_
        rintro e w6 ⟨rfl, h6⟩
        replace h6 := hide h6
        go_wp2
        go_round
        case rel => exact ⟨j + 1, by omega, by go_num, h6⟩
        case measure => simp [intOf]; omega
      · obtain rfl : j = n := by omega
        clear hlt hj hR0
        go_wp2
        go_loopw [5, 40] (fun x i wr => ∃ t : Nat, t ≤ j ∧ i = .int .i64 t ∧ x = .int .i64 (bestN vs t) ∧ Hid (Rg w wr g (updN qf0 0 (seg t j)) bb ql)) (fun _ i _ => j - (intOf i).toNat)
        case atStart => exact ⟨0, Nat.zero_le _, rfl, rfl, hR⟩
        case round =>
          obtain ⟨t, ht, rfl, rfl, hR2⟩ := hrel
          by_cases hlt : t < j
          · rw [seg_pop t j hlt] at hR2
            have k1 := hide (RPop_at 0 (by decide) (t : Int) (seg (t + 1) j) hR2.out)
            go_wp2_with fail
            refine k1.out.mono ?_
            rintro e w6 ⟨rfl, h6⟩
            replace h6 := hide h6
            clear k1 hR2
            have hV := hide (hI.out.below h6.out.bel)
            obtain ⟨b, off, rfl, c0, c1, c2, c3, hwf⟩ := hV.out t hlt
            have hS : Hid (bestN vs (t + 1) = if bestN vs t < 0 ∨ betB (vs.getD t Vc.zero) (vs.getD (bestN vs t).toNat Vc.zero) = true then (t : Int) else bestN vs t) := rfl
            have hr := bestN_range vs t
            obtain ⟨hr0, hr1, _⟩ := hr
            generalize hB1 : bestN vs (t + 1) = B1 at *
            generalize hB0 : bestN vs t = B0 at *
            generalize hX : vs.getD t Vc.zero = X at *
            replace hB0 := hide hB0
            replace hB1 := hide hB1
            replace hX := hide hX
            by_cases hneg : B0 < 0
            · have hE : Hid (B1 = t) := hS.out.trans (if_pos (.inl hneg))
              go_wp2_with fail
              refine wp_region_noPanic ?_
              refine wp_region_held_drew (S := fun W => True) (by kernel_rfl) trivial (fun hHeld => ?_)
              refine wpAnyH_take (i := 0) (oi := { dst := some 49, op := Op.move (Operand.tmp 5), type := 3, pos := "top04.go:30", after := #[], guard := none }) (v := ?v1) rfl (by kernel_rfl) (by kernel_rfl) (by kernel_rfl) (fun _ _ _ h => h) (Or.inl ⟨by rfl, ?y1⟩) (by assumption) ?r1
              case y1 => (intro w hSw; (try dsimp only at hSw); (try (go_split_ands)); go_simp; try with_reducible rfl)
              try simp only [Act.put, List.setIfInBounds_toArray, List.set_cons_zero, List.set_cons_succ]
              refine wpAnyH_take (i := 1) (oi := { dst := some 50, op := Op.binOp BinOp.lss 3 (Operand.tmp 49) (Operand.const (Value.int IntKind.i64 0)) 3, type := 4, pos := "top04.go:30", after := #[{ on := 0, ground := Ground.data }], guard := none }) (v := ?v2) rfl (by kernel_rfl) (by kernel_rfl) (by kernel_rfl) (fun _ _ _ h => h) (Or.inl ⟨by rfl, ?y2⟩) (by assumption) ?r2
              case y2 => (intro w hSw; (try dsimp only at hSw); (try (go_split_ands)); go_simp; try with_reducible rfl)
              try simp only [Act.put, List.setIfInBounds_toArray, List.set_cons_zero, List.set_cons_succ]
              refine wpAnyH_take (i := 2) (oi := { dst := some 51, op := Op.move (Operand.tmp 50), type := 4, pos := "top04.go:30", after := #[{ on := 1, ground := Ground.data }], guard := none }) (v := ?v3) rfl (by kernel_rfl) (by kernel_rfl) (by kernel_rfl) (fun _ _ _ h => h) (Or.inl ⟨by rfl, ?y3⟩) (by assumption) ?r3
              case y3 => (intro w hSw; (try dsimp only at hSw); (try (go_split_ands)); go_simp; try with_reducible rfl)
              try simp only [Act.put, List.setIfInBounds_toArray, List.set_cons_zero, List.set_cons_succ]
              refine wpAnyH_take (i := 3) (oi := { dst := some 52, op := Op.move (Operand.tmp 0), type := 51, pos := "top04.go:30", after := #[{ on := 2, ground := Ground.guard }], guard := some (2, false) }) (v := undef) rfl (by kernel_rfl) (by kernel_rfl) (by kernel_rfl) (fun _ _ _ h => h) (Or.inr ⟨by rfl, rfl⟩) (by assumption) ?_
              try simp only [Act.put, List.setIfInBounds_toArray, List.set_cons_zero, List.set_cons_succ]
              refine wpAnyH_take (i := 4) (oi := { dst := some 53, op := Op.move (Operand.tmp 6), type := 3, pos := "top04.go:30", after := #[{ on := 2, ground := Ground.guard }], guard := some (2, false) }) (v := undef) rfl (by kernel_rfl) (by kernel_rfl) (by kernel_rfl) (fun _ _ _ h => h) (Or.inr ⟨by rfl, rfl⟩) (by assumption) ?_
              try simp only [Act.put, List.setIfInBounds_toArray, List.set_cons_zero, List.set_cons_succ]
              refine wpAnyH_take (i := 5) (oi := { dst := some 54, op := Op.indexAddr 51 (Operand.tmp 52) (Operand.tmp 53), type := 0, pos := "top04.go:30", after := #[{ on := 3, ground := Ground.data }, { on := 4, ground := Ground.data }, { on := 2, ground := Ground.guard }], guard := some (2, false) }) (v := undef) rfl (by kernel_rfl) (by kernel_rfl) (by kernel_rfl) (fun _ _ _ h => h) (Or.inr ⟨by rfl, rfl⟩) (by assumption) ?_
              try simp only [Act.put, List.setIfInBounds_toArray, List.set_cons_zero, List.set_cons_succ]
              refine wpAnyH_take (i := 6) (oi := { dst := some 55, op := Op.load 45 (Operand.tmp 54), type := 45, pos := "top04.go:30", after := #[{ on := 5, ground := Ground.data }, { on := 2, ground := Ground.guard }], guard := some (2, false) }) (v := undef) rfl (by kernel_rfl) (by kernel_rfl) (by kernel_rfl) (fun _ _ _ h => h) (Or.inr ⟨by rfl, rfl⟩) (by assumption) ?_
              try simp only [Act.put, List.setIfInBounds_toArray, List.set_cons_zero, List.set_cons_succ]
              refine wpAnyH_take (i := 7) (oi := { dst := some 56, op := Op.move (Operand.tmp 0), type := 51, pos := "top04.go:30", after := #[{ on := 2, ground := Ground.guard }], guard := some (2, false) }) (v := undef) rfl (by kernel_rfl) (by kernel_rfl) (by kernel_rfl) (fun _ _ _ h => h) (Or.inr ⟨by rfl, rfl⟩) (by assumption) ?_
              try simp only [Act.put, List.setIfInBounds_toArray, List.set_cons_zero, List.set_cons_succ]
              refine wpAnyH_take (i := 8) (oi := { dst := some 57, op := Op.move (Operand.tmp 5), type := 3, pos := "top04.go:30", after := #[{ on := 2, ground := Ground.guard }], guard := some (2, false) }) (v := undef) rfl (by kernel_rfl) (by kernel_rfl) (by kernel_rfl) (fun _ _ _ h => h) (Or.inr ⟨by rfl, rfl⟩) (by assumption) ?_
              try simp only [Act.put, List.setIfInBounds_toArray, List.set_cons_zero, List.set_cons_succ]
              refine wpAnyH_take (i := 9) (oi := { dst := some 58, op := Op.indexAddr 51 (Operand.tmp 56) (Operand.tmp 57), type := 0, pos := "top04.go:30", after := #[{ on := 7, ground := Ground.data }, { on := 8, ground := Ground.data }, { on := 2, ground := Ground.guard }], guard := some (2, false) }) (v := undef) rfl (by kernel_rfl) (by kernel_rfl) (by kernel_rfl) (fun _ _ _ h => h) (Or.inr ⟨by rfl, rfl⟩) (by assumption) ?_
              try simp only [Act.put, List.setIfInBounds_toArray, List.set_cons_zero, List.set_cons_succ]
              refine wpAnyH_take (i := 10) (oi := { dst := some 59, op := Op.load 45 (Operand.tmp 58), type := 45, pos := "top04.go:30", after := #[{ on := 9, ground := Ground.data }, { on := 2, ground := Ground.guard }], guard := some (2, false) }) (v := undef) rfl (by kernel_rfl) (by kernel_rfl) (by kernel_rfl) (fun _ _ _ h => h) (Or.inr ⟨by rfl, rfl⟩) (by assumption) ?_
              try simp only [Act.put, List.setIfInBounds_toArray, List.set_cons_zero, List.set_cons_succ]
              refine wpAnyH_take (i := 11) (oi := { dst := some 60, op := Op.call { callee := Callee.value (Operand.func 27), args := #[Operand.tmp 55, Operand.tmp 59], argTypes := #[45, 45] }, type := 4, pos := "top04.go:30", after := #[{ on := 6, ground := Ground.data }, { on := 10, ground := Ground.data }, { on := 2, ground := Ground.chain }, { on := 2, ground := Ground.guard }], guard := some (2, false) }) (v := undef) rfl (by kernel_rfl) (by kernel_rfl) (by kernel_rfl) (fun _ _ _ h => h) (Or.inr ⟨by rfl, rfl⟩) (by assumption) ?_
              try simp only [Act.put, List.setIfInBounds_toArray, List.set_cons_zero, List.set_cons_succ]
              refine wpAnyH_take (i := 12) (oi := { dst := some 61, op := Op.pick (Operand.tmp 51) (Operand.const (Value.bool true)) (Operand.tmp 60), type := 4, pos := "top04.go:30", after := #[{ on := 2, ground := Ground.data }, { on := 11, ground := Ground.data }], guard := none }) (v := ?v4) rfl (by kernel_rfl) (by kernel_rfl) (by kernel_rfl) (fun _ _ _ h => h) (Or.inl ⟨by rfl, ?y4⟩) (by assumption) ?r4
              case y4 => (intro w hSw; (try dsimp only at hSw); (try (go_split_ands)); go_simp; try with_reducible rfl)
              try simp only [Act.put, List.setIfInBounds_toArray, List.set_cons_zero, List.set_cons_succ]
              refine wpAnyH_done (by kernel_rfl) ?_ _
              refine NoPanic.normal ?_
              have hR7 := hide (h6.out.below (below_drewN (Below.refl w6.heap.size w6) 1))
              go_wp2
              go_round
              case rel => exact ⟨t + 1, by omega, by go_num, by rw [hB1.out, hE.out], hR7⟩
              case measure => simp [intOf]; omega
            obtain ⟨u, rfl⟩ := Int.eq_ofNat_of_zero_le (show 0 ≤ B0 by omega)
            obtain ⟨b', off', hbo, d0, d1, d2, d3, hwf'⟩ := hV.out u (by omega)
            simp only [Option.some.injEq, Addr.mk.injEq, and_true] at hbo
            obtain ⟨rfl, rfl⟩ := hbo
            have hE : Hid (B1 = if betB X (vs.getD u Vc.zero) = true then (t : Int) else u) := by
              have h := hS.out
              simp only [hneg, false_or, Int.toNat_natCast] at h
              exact h
            clear hS
            generalize vs.getD u Vc.zero = Y at *
            have hBt := hide (fun w => Better_any X Y w)
            generalize betB X Y = y at *
            obtain ⟨x0, x1, x2, x3⟩ := X
            obtain ⟨y0, y1, y2, y3⟩ := Y
            dsimp only at *
            have hl := block_lt_of_cell d0
            have htn : u < j := by omega
            have hS2 : Hid (∀ W : World, Below w6.heap.size w6 W → W.cell? ⟨b, off + t * 4, none⟩ = some (.int .u64 x0) ∧ W.cell? ⟨b, off + t * 4 + 1, none⟩ = some (.int .u64 x1) ∧ W.cell? ⟨b, off + t * 4 + 2, none⟩ = some (.int .u64 x2) ∧ W.cell? ⟨b, off + t * 4 + 3, none⟩ = some (.int .i64 x3) ∧ W.cell? ⟨b, off + u * 4, none⟩ = some (.int .u64 y0) ∧ W.cell? ⟨b, off + u * 4 + 1, none⟩ = some (.int .u64 y1) ∧ W.cell? ⟨b, off + u * 4 + 2, none⟩ = some (.int .u64 y2) ∧ W.cell? ⟨b, off + u * 4 + 3, none⟩ = some (.int .i64 y3)) := fun W h =>
              ⟨(h.cell (p := ⟨b, off + t * 4, none⟩) hl).trans c0, (h.cell (p := ⟨b, off + t * 4 + 1, none⟩) hl).trans c1, (h.cell (p := ⟨b, off + t * 4 + 2, none⟩) hl).trans c2, (h.cell (p := ⟨b, off + t * 4 + 3, none⟩) hl).trans c3,
                (h.cell (p := ⟨b, off + u * 4, none⟩) hl).trans d0, (h.cell (p := ⟨b, off + u * 4 + 1, none⟩) hl).trans d1, (h.cell (p := ⟨b, off + u * 4 + 2, none⟩) hl).trans d2, (h.cell (p := ⟨b, off + u * 4 + 3, none⟩) hl).trans d3⟩
            have hu0 : decide ((u : Int) < 0) = false := decide_eq_false (by omega)
            go_wp2_with fail
            refine wp_region_noPanic ?_
            refine wp_region_held_drew (S := fun W => W.cell? ⟨b, off + t * 4, none⟩ = some (.int .u64 x0) ∧ W.cell? ⟨b, off + t * 4 + 1, none⟩ = some (.int .u64 x1) ∧ W.cell? ⟨b, off + t * 4 + 2, none⟩ = some (.int .u64 x2) ∧ W.cell? ⟨b, off + t * 4 + 3, none⟩ = some (.int .i64 x3) ∧ W.cell? ⟨b, off + u * 4, none⟩ = some (.int .u64 y0) ∧ W.cell? ⟨b, off + u * 4 + 1, none⟩ = some (.int .u64 y1) ∧ W.cell? ⟨b, off + u * 4 + 2, none⟩ = some (.int .u64 y2) ∧ W.cell? ⟨b, off + u * 4 + 3, none⟩ = some (.int .i64 y3)) (by kernel_rfl) (hS2.out _ (below_drewN (Below.refl _ _) 1)) (fun hHeld => ?_)
            refine wpAnyH_take (i := 0) (oi := { dst := some 49, op := Op.move (Operand.tmp 5), type := 3, pos := "top04.go:30", after := #[], guard := none }) (v := ?v5) rfl (by kernel_rfl) (by kernel_rfl) (by kernel_rfl) (fun _ _ _ h => h) (Or.inl ⟨by rfl, ?y5⟩) (by assumption) ?r5
            case y5 => (intro w hSw; (try dsimp only at hSw); (try (go_split_ands)); go_simp; try with_reducible rfl)
            try simp only [Act.put, List.setIfInBounds_toArray, List.set_cons_zero, List.set_cons_succ]
            refine wpAnyH_take (i := 1) (oi := { dst := some 50, op := Op.binOp BinOp.lss 3 (Operand.tmp 49) (Operand.const (Value.int IntKind.i64 0)) 3, type := 4, pos := "top04.go:30", after := #[{ on := 0, ground := Ground.data }], guard := none }) (v := ?v6) rfl (by kernel_rfl) (by kernel_rfl) (by kernel_rfl) (fun _ _ _ h => h) (Or.inl ⟨by rfl, ?y6⟩) (by assumption) ?r6
            case y6 => (intro w hSw; (try dsimp only at hSw); (try (go_split_ands)); go_simp; try with_reducible rfl)
            try simp only [Act.put, List.setIfInBounds_toArray, List.set_cons_zero, List.set_cons_succ]
            refine wpAnyH_take (i := 2) (oi := { dst := some 51, op := Op.move (Operand.tmp 50), type := 4, pos := "top04.go:30", after := #[{ on := 1, ground := Ground.data }], guard := none }) (v := ?v7) rfl (by kernel_rfl) (by kernel_rfl) (by kernel_rfl) (fun _ _ _ h => h) (Or.inl ⟨by rfl, ?y7⟩) (by assumption) ?r7
            case y7 => (intro w hSw; (try dsimp only at hSw); (try (go_split_ands)); go_simp; try with_reducible rfl)
            try simp only [Act.put, List.setIfInBounds_toArray, List.set_cons_zero, List.set_cons_succ]
            refine wpAnyH_take (i := 3) (oi := { dst := some 52, op := Op.move (Operand.tmp 0), type := 51, pos := "top04.go:30", after := #[{ on := 2, ground := Ground.guard }], guard := some (2, false) }) (v := ?v8) rfl (by kernel_rfl) (by kernel_rfl) (by kernel_rfl) (fun _ _ _ h => h) (Or.inl ⟨by rfl, ?y8⟩) (by assumption) ?r8
            case y8 => (intro w hSw; (try dsimp only at hSw); (try (go_split_ands)); go_simp; try with_reducible rfl)
            try simp only [Act.put, List.setIfInBounds_toArray, List.set_cons_zero, List.set_cons_succ]
            refine wpAnyH_take (i := 4) (oi := { dst := some 53, op := Op.move (Operand.tmp 6), type := 3, pos := "top04.go:30", after := #[{ on := 2, ground := Ground.guard }], guard := some (2, false) }) (v := ?v9) rfl (by kernel_rfl) (by kernel_rfl) (by kernel_rfl) (fun _ _ _ h => h) (Or.inl ⟨by rfl, ?y9⟩) (by assumption) ?r9
            case y9 => (intro w hSw; (try dsimp only at hSw); (try (go_split_ands)); go_simp; try with_reducible rfl)
            try simp only [Act.put, List.setIfInBounds_toArray, List.set_cons_zero, List.set_cons_succ]
            refine wpAnyH_take (i := 5) (oi := { dst := some 54, op := Op.indexAddr 51 (Operand.tmp 52) (Operand.tmp 53), type := 0, pos := "top04.go:30", after := #[{ on := 3, ground := Ground.data }, { on := 4, ground := Ground.data }, { on := 2, ground := Ground.guard }], guard := some (2, false) }) (v := ?v10) rfl (by kernel_rfl) (by kernel_rfl) (by kernel_rfl) (fun _ _ _ h => h) (Or.inl ⟨by rfl, ?y10⟩) (by assumption) ?r10
            case y10 => (intro w hSw; (try dsimp only at hSw); (try (go_split_ands)); go_simp; try with_reducible rfl)
            try simp only [Act.put, List.setIfInBounds_toArray, List.set_cons_zero, List.set_cons_succ]
            refine wpAnyH_take (i := 6) (oi := { dst := some 55, op := Op.load 45 (Operand.tmp 54), type := 45, pos := "top04.go:30", after := #[{ on := 5, ground := Ground.data }, { on := 2, ground := Ground.guard }], guard := some (2, false) }) (v := ?v11) rfl (by kernel_rfl) (by kernel_rfl) (by kernel_rfl) (fun _ _ _ h => h) (Or.inl ⟨by rfl, ?y11⟩) (by assumption) ?r11
            case y11 => (intro w hSw; (try dsimp only at hSw); (try (go_split_ands)); go_simp; try with_reducible rfl)
            try simp only [Act.put, List.setIfInBounds_toArray, List.set_cons_zero, List.set_cons_succ]
            refine wpAnyH_take (i := 7) (oi := { dst := some 56, op := Op.move (Operand.tmp 0), type := 51, pos := "top04.go:30", after := #[{ on := 2, ground := Ground.guard }], guard := some (2, false) }) (v := ?v12) rfl (by kernel_rfl) (by kernel_rfl) (by kernel_rfl) (fun _ _ _ h => h) (Or.inl ⟨by rfl, ?y12⟩) (by assumption) ?r12
            case y12 => (intro w hSw; (try dsimp only at hSw); (try (go_split_ands)); go_simp; try with_reducible rfl)
            try simp only [Act.put, List.setIfInBounds_toArray, List.set_cons_zero, List.set_cons_succ]
            refine wpAnyH_take (i := 8) (oi := { dst := some 57, op := Op.move (Operand.tmp 5), type := 3, pos := "top04.go:30", after := #[{ on := 2, ground := Ground.guard }], guard := some (2, false) }) (v := ?v13) rfl (by kernel_rfl) (by kernel_rfl) (by kernel_rfl) (fun _ _ _ h => h) (Or.inl ⟨by rfl, ?y13⟩) (by assumption) ?r13
            case y13 => (intro w hSw; (try dsimp only at hSw); (try (go_split_ands)); go_simp; try with_reducible rfl)
            try simp only [Act.put, List.setIfInBounds_toArray, List.set_cons_zero, List.set_cons_succ]
            refine wpAnyH_take (i := 9) (oi := { dst := some 58, op := Op.indexAddr 51 (Operand.tmp 56) (Operand.tmp 57), type := 0, pos := "top04.go:30", after := #[{ on := 7, ground := Ground.data }, { on := 8, ground := Ground.data }, { on := 2, ground := Ground.guard }], guard := some (2, false) }) (v := ?v14) rfl (by kernel_rfl) (by kernel_rfl) (by kernel_rfl) (fun _ _ _ h => h) (Or.inl ⟨by rfl, ?y14⟩) (by assumption) ?r14
            case y14 => (intro w hSw; (try dsimp only at hSw); (try (go_split_ands)); go_simp; try with_reducible rfl)
            try simp only [Act.put, List.setIfInBounds_toArray, List.set_cons_zero, List.set_cons_succ]
            refine wpAnyH_take (i := 10) (oi := { dst := some 59, op := Op.load 45 (Operand.tmp 58), type := 45, pos := "top04.go:30", after := #[{ on := 9, ground := Ground.data }, { on := 2, ground := Ground.guard }], guard := some (2, false) }) (v := ?v15) rfl (by kernel_rfl) (by kernel_rfl) (by kernel_rfl) (fun _ _ _ h => h) (Or.inl ⟨by rfl, ?y15⟩) (by assumption) ?r15
            case y15 => (intro w hSw; (try dsimp only at hSw); (try (go_split_ands)); go_simp; try with_reducible rfl)
            try simp only [Act.put, List.setIfInBounds_toArray, List.set_cons_zero, List.set_cons_succ]
            refine wpAnyH_ready (rs := [11]) (by kernel_rfl) (by simp) ?_
            refine AllReadyH.cons (o := { dst := some 60, op := Op.call { callee := Callee.value (Operand.func 27), args := #[Operand.tmp 55, Operand.tmp 59], argTypes := #[45, 45] }, type := 4, pos := "top04.go:30", after := #[{ on := 6, ground := Ground.data }, { on := 10, ground := Ground.data }, { on := 2, ground := Ground.chain }, { on := 2, ground := Ground.guard }], guard := some (2, false) }) rfl (fun K hK => ?_) AllReadyH.nil
            go_simp
            refine (hBt.out _).mono ?_
            rintro e w7 ⟨rfl, hb7⟩
            have hb7' : Below w6.heap.size w6 w7 := (below_drewN (Below.refl _ _) 1).later hb7
            go_wp2_with fail
            refine hK.out _ _ ?_ (fun hHeld11 => ?_)
            · exact hS2.out _ hb7'
            clear hK K
            try simp only [Act.put, List.setIfInBounds_toArray, List.set_cons_zero, List.set_cons_succ]
            have hR7 := hide (h6.out.below hb7')
            clear hb7 hb7'
            cases y
            ·
              refine wpAnyH_take (i := 12) (oi := { dst := some 61, op := Op.pick (Operand.tmp 51) (Operand.const (Value.bool true)) (Operand.tmp 60), type := 4, pos := "top04.go:30", after := #[{ on := 2, ground := Ground.data }, { on := 11, ground := Ground.data }], guard := none }) (v := ?v16) rfl (by kernel_rfl) (by kernel_rfl) (by kernel_rfl) (fun _ _ _ h => h) (Or.inl ⟨by rfl, ?y16⟩) (by assumption) ?r16
              case y16 => (intro w hSw; (try dsimp only at hSw); (try (go_split_ands)); go_simp; try with_reducible rfl)
              try simp only [Act.put, List.setIfInBounds_toArray, List.set_cons_zero, List.set_cons_succ]
              refine wpAnyH_done (by kernel_rfl) ?_ _
              refine NoPanic.normal ?_
              clear hHeld hHeld11 hBt hS2
              go_wp2
              go_round
              case rel => exact ⟨t + 1, by omega, by go_num, by rw [hB1.out, hE.out]; simp, hR7⟩
              case measure => simp [intOf]; omega
            ·
              refine wpAnyH_take (i := 12) (oi := { dst := some 61, op := Op.pick (Operand.tmp 51) (Operand.const (Value.bool true)) (Operand.tmp 60), type := 4, pos := "top04.go:30", after := #[{ on := 2, ground := Ground.data }, { on := 11, ground := Ground.data }], guard := none }) (v := ?v17) rfl (by kernel_rfl) (by kernel_rfl) (by kernel_rfl) (fun _ _ _ h => h) (Or.inl ⟨by rfl, ?y17⟩) (by assumption) ?r17
              case y17 => (intro w hSw; (try dsimp only at hSw); (try (go_split_ands)); go_simp; try with_reducible rfl)
              try simp only [Act.put, List.setIfInBounds_toArray, List.set_cons_zero, List.set_cons_succ]
              refine wpAnyH_done (by kernel_rfl) ?_ _
              refine NoPanic.normal ?_
              clear hHeld hHeld11 hBt hS2
              go_wp2
              go_round
              case rel => exact ⟨t + 1, by omega, by go_num, by rw [hB1.out, hE.out]; simp, hR7⟩
              case measure => simp [intOf]; omega
          · obtain rfl : t = j := by omega
            rw [seg_nil, show updN qf0 0 [] = qf0 from updN_self qf0 0] at hR2
            have hV := hide (hI.out.below hR2.out.bel)
            have hBst := hide (Best_any a t cap vs _ (by omega) hV)
            go_wp2_with fail
            refine hBst.out.mono ?_
            rintro e w8 ⟨rfl, hb8⟩
            have hR8 := hide (hR2.out.below hb8)
            have hA := hide (RAll hR8.out (fun k hk => by simp))
            rw [show allF qf0 8 = 0 by decide] at hA
            clear hb8
            go_wp2_with fail
            refine hA.out.mono ?_
            rintro e w9 ⟨rfl, rfl⟩
            go_wp2
            go_ret
            exact ⟨rfl, hR8.out.bel⟩
end Go.Proofs.Ytjfjohbibkidhaa
