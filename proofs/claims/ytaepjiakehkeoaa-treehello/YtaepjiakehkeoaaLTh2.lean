/-
  The walk of TreeHello. Conditions: those that the theorem names.
-/
import Derived.Test.YtaepjiakehkeoaaLTh
namespace Go.Proofs.Ytaepjiakehkeoaa
open Go.RowKit
set_option linter.unusedVariables false
set_option maxRecDepth 20000

set_option maxHeartbeats 8000000 in
theorem Th_walk (id many secs : Int) (w : World) (hid : U64 id) : Calls Try.prog 13 #[.int .u64 id, .int .i64 many, .int .i64 secs] w fun e w' => e = .returned (.bool true) ∧ Below w.heap.size w w' := by
  go_enter Try.func13, Try.ntmps13
  go_wp2_with fail
  refine (grows_any _).mono ?_
  rintro e w0 ⟨rfl, hb0⟩
  replace hb0 := hide hb0
  by_cases h1 : many < 1
  · go_wp2
    go_ret
    exact ⟨rfl, hb0.out⟩
  by_cases h2 : many > 8
  · go_wp2
    go_ret
    exact ⟨rfl, hb0.out⟩
  by_cases h3 : secs < 0
  · go_wp2
    go_ret
    exact ⟨rfl, hb0.out⟩
  by_cases h4 : secs > 60
  · go_wp2
    go_ret
    exact ⟨rfl, hb0.out⟩
  obtain ⟨n, rfl⟩ := Int.eq_ofNat_of_zero_le (show 0 ≤ many by omega)
  obtain ⟨M, rfl⟩ := Int.eq_ofNat_of_zero_le (show 0 ≤ secs by omega)
  go_wp2_with fail
  go_loopw [32, 7] (fun i v wr => ∃ j : Nat, j ≤ n ∧ i = .int .i64 j ∧ Hid (Below w.heap.size w wr) ∧ Hid (Sl wr v 3 1 fI (idsL j)) ∧ Hid (Fresh w.heap.size v)) (fun i _ _ => n - (intOf i).toNat)
  case atStart => exact ⟨0, Nat.zero_le _, rfl, hb0, Sl.nil _ _ _ _, fun x e => by simp [Value.ownBlock] at e⟩
  case round =>
    obtain ⟨j, hj, rfl, hB, hS, hO⟩ := hrel
    clear hb0
    by_cases hlt : j < n
    · have hP := hide (idsL_push j)
      have hL : (idsL j).length ≤ 8 := by rw [idsL_len]; omega
      generalize hW1 : idsL (j + 1) = W1 at *
      replace hW1 := hide hW1
      generalize idsL j = L1 at *
      have hb1 := hide (hB.out.later (below1 wr (.cells #[.int .i64 ((j : Int) + 1)] 3)))
      have hS1 := hide (hS.out.below (below1 wr (.cells #[.int .i64 ((j : Int) + 1)] 3)))
      have hk : Hid ((wr.alloc (.cells #[.int .i64 ((j : Int) + 1)] 3)).heap[wr.heap.size]? = some (.cells #[.int .i64 ((j : Int) + 1)] 3)) := heap_alloc_new _ _
      have hsz : Hid (w.heap.size ≤ wr.heap.size) := hB.out.size
      go_wp2_with (at_builtin; refine unhB ?_)
      refine hide ?_
      refine wpList_append_sl rfl (.tmp 35) (.tmp 38) rfl wide_I sty_I u7 L1 rfl hS1.out ⟨wr.heap.size, 0, none⟩ 1 1 [(j : Int) + 1] rfl rfl (fun x u hx => ?_) (by simp; omega) (by omega) ?_
      · rw [Addr.add_lit, cell_of_row _ _ _ _ _ _ hk.out, ← hx]
        simp [flat]
      intro v4 w4 hS4 hg4 ho4
      rw [hP.out] at hS4
      have hB4 : Hid (Below w.heap.size w w4) := grown_below hg4 hb1.out (by rw [World.size_alloc]; have := hsz.out; omega) hO.out
      have hO4 : Hid (Fresh w.heap.size v4) := fun x e => by
        rcases ho4 with e1 | e1
        · rw [e1] at e; exact hO.out x e
        · rw [e1] at e; simp only [Option.some.injEq, World.size_alloc] at e; have := hsz.out; omega
      replace hS4 := hide hS4
      obtain ⟨av, cv, rfl⟩ := hS4.out.shape
      clear hg4 ho4 hS1 hb1 hk hsz hB hS hO hP
      generalize hLL : W1.length = ltn at *
      replace hLL := hide hLL
      go_wp2
      go_round
      case rel => exact ⟨j + 1, by omega, by go_num, hB4, by rw [hW1.out]; exact hS4, hO4⟩
      case measure => simp [intOf]; omega
    · obtain rfl : n = j := by omega
      obtain ⟨ai, ci, rfl, hIn⟩ := hS.out.ins
      rw [idsL_len] at hIn ⊢
      have hp := hide (ports_any ai n ci (idsL n) wr (by omega) hIn)
      have hall := hide (helT_all id n hid (by omega) (by omega))
      clear hS hO hIn hlt hj
      go_wp2_with fail
      refine hp.out.mono ?_
      rintro e w1 ⟨v1, rfl, hS1, hB1, hF1⟩
      have hB2 := hide (hB.out.later hB1)
      obtain ⟨a1, c1, rfl, hc1, hcn1, hT1⟩ := hS1.tps (ids_wf n (by omega))
      have hl1 : ((idsL n).map portP).length = n := by rw [List.length_map, idsL_len]
      rw [hl1] at hc1 hT1 ⊢
      have hn := hide (ONew id a1 n c1 ((idsL n).map portP) w1 (fun k => k < w.heap.size) (fun k hk => Nat.lt_of_lt_of_le hk hB2.out.size) hid (by omega) hc1 hcn1 hT1)
      clear hp hB1 hF1 hS1 hc1 hcn1 hT1 hl1 hB
      go_wp2_with fail
      refine hn.out.mono ?_
      rintro e w3 ⟨tb, rfl, hO3, hb3⟩
      have hB3 := hide (hB2.out.later hb3)
      replace hO3 := hide hO3
      clear hn hB2 hb3
      go_wp2_with fail
      refine (OLink hO3.out (by omega) 0 true).mono ?_
      rintro e w4 ⟨rfl, hO4, hK4⟩
      have hB4 := hide (hK4.below hB3.out (fun k hk => hk))
      have ho4 := hide (OOuts hO4 (by omega))
      clear hK4 hB3 hO3 hO4
      go_wp2_with fail
      refine ho4.out.mono ?_
      rintro e w5 ⟨v5, rfl, hS5, hF5, hO5, hK5⟩
      obtain ⟨a5, c5, rfl⟩ := hS5.shape
      have hB5 := hide (hK5.below hB4.out (fun k hk => hk))
      have hO6 := hide (hO5.mono (A' := fun k => k < w.heap.size) (fun k hk => .inl hk))
      have hG : Hid (tookT (linkT (newT id ((idsL n).map portP)) 0 true) = helT id n 0) := rfl
      rw [hG.out] at hO6
      clear ho4 hS5 hF5 hO5 hK5 hB4 hG
      go_wp2_with fail
      go_loopw [50] (fun i wr => ∃ s : Nat, s ≤ M ∧ i = .int .i64 s ∧ Hid (Ow wr tb (fun k => k < w.heap.size) 0 (helT id n s)) ∧ Hid (Below w.heap.size w wr)) (fun i _ => M - (intOf i).toNat)
      case atStart => exact ⟨0, Nat.zero_le _, rfl, hO6, hB5⟩
      case round =>
        obtain ⟨s, hs, rfl, hO, hB⟩ := hrel
        clear hO6 hB5
        by_cases hlt : s < M
        rotate_left
        · obtain rfl : M = s := by omega
          clear hO
          go_wp2
          go_ret
          exact ⟨rfl, hB.out⟩
        obtain ⟨g1, g2, g3⟩ := hall.out s
        have hth := hide (tick_hel g1 g2 s g3).2
        have hS1 : Hid (helT id n (s + 1) = tookT (tickT (helT id n s))) := rfl
        have ht := hide (OTick hO.out (by omega))
        generalize tickT (helT id n s) = T1 at *
        generalize hV1 : helT id n (s + 1) = V1 at *
        replace hV1 := hide hV1
        clear g1 g2 g3
        go_wp2_with fail
        refine ht.out.mono ?_
        rintro e w6 ⟨rfl, hO7, hK7⟩
        have hB7 := hide (hK7.below hB.out (fun k hk => hk))
        have ho7 := hide (OOuts hO7 (by omega))
        clear ht hK7 hB hO hO7
        go_wp2_with fail
        refine ho7.out.mono ?_
        rintro e w7 ⟨v7, rfl, hS7, hF7, hO8, hK8⟩
        have hB8 := hide (hK8.below hB7.out (fun k hk => hk))
        have hO9 := hide (hO8.mono (A' := fun k => k < w.heap.size) (fun k hk => .inl hk))
        rw [← hS1.out] at hO9
        clear ho7 hF7 hO8 hK8 hB7 hS1
        rcases (show s % 2 = 1 ∨ s % 2 = 0 by omega) with hp | hp
        · have hz := hth.out.1 hp
          rw [hz] at hS7
          obtain ⟨a7, c7, rfl⟩ := hS7.shape
          have hl7 : ([] : List Ot).length = 0 := rfl
          rw [hl7]
          have hm1 : ((s : Int) % 2 == 1) = true := by rw [beq_iff_eq]; omega
          have hm0 : ((s : Int) % 2 == 0) = false := by rw [beq_eq_false_iff_ne]; omega
          clear hth hS7 hl7 hz
          go_wp2_with fail
          go_loopw [77] (fun i wr => i = .int .i64 0 ∧ Hid (Below w7.heap.size w7 wr)) (fun _ _ => 0)
          case atStart => exact ⟨rfl, hide (Below.refl _ _)⟩
          case round =>
            obtain ⟨rfl, hbz⟩ := hrel
            have hO12 := hide (hO9.out.below hbz.out)
            have hB12 := hide (hB8.out.later hbz.out)
            clear hO9 hB8 hbz
            go_wp2
            go_round
            case rel => exact ⟨s + 1, by omega, by go_num, by rw [hV1.out]; exact hO12, hB12⟩
            case measure => simp [intOf]; omega
        · obtain ⟨m, hz, hm⟩ := hth.out.2 hp
          rw [hz] at hS7
          obtain ⟨pb, cp, sp, rfl, hFl, -, -⟩ := hS7.at_i (by simp)
          have hl7 : ([⟨0, m⟩] : List Ot).length = 1 := rfl
          rw [hl7]
          have hm1 : ((s : Int) % 2 == 1) = false := by rw [beq_eq_false_iff_ne]; omega
          have hm0 : ((s : Int) % 2 == 0) = true := by rw [beq_iff_eq]; omega
          have hrow : Hid (∀ W : World, Below w7.heap.size w7 W → W.rangeAt pb 0 (fO ⟨0, m⟩)) := fun W hb => by
            have := (hFl.below hb).range wide_O Ot.zero 0 (by simp)
            rw [Nat.zero_mul] at this
            exact this
          clear hth hS7 hl7 hz hFl
          obtain ⟨m0, m1, m2, m3, m4, m5, m6, m7, m8, m9, m10, m11, m12, m13, m14, m15⟩ := m
          obtain ⟨f1, f2, f3, f4, f5, f6, f7, f8, f9⟩ := hm
          dsimp only at f1 f2 f3 f4 f5 f6 f7 f8 f9
          subst f1 f2 f3 f4 f5 f6 f7 f8 f9
          have hvw : (⟨m3, 0, m3, 1⟩ : Vc).wf := ⟨hid, by simp [U64], hid, by simp [I64]⟩
          have hneq : ∀ W : World, (binOp .neq 26 (.agg #[.int .u64 m3, .int .u64 0, .int .u64 m3, .int .i64 1]) (.agg #[.int .u64 m3, .int .u64 0, .int .u64 m3, .int .i64 1])).run Try.prog W = .ok (.bool false) W := fun W => by
            have := vec_neq ⟨m3, 0, m3, 1⟩ ⟨m3, 0, m3, 1⟩ hvw hvw W
            simpa using this
          clear hvw
          go_wp2_with fail
          go_loopw [77] (fun i wr => ∃ x : Nat, x ≤ 1 ∧ i = .int .i64 x ∧ Hid (Below w7.heap.size w7 wr)) (fun i _ => 1 - (intOf i).toNat)
          case atStart => exact ⟨0, Nat.zero_le _, rfl, hide (Below.refl _ _)⟩
          case round =>
            obtain ⟨x, hx, rfl, hbz⟩ := hrel
            by_cases hxl : x < 1
            rotate_left
            · obtain rfl : x = 1 := by omega
              have hO12 := hide (hO9.out.below hbz.out)
              have hB12 := hide (hB8.out.later hbz.out)
              clear hO9 hB8 hbz hrow hneq
              go_wp2
              go_round
              case rel => exact ⟨s + 1, by omega, by go_num, by rw [hV1.out]; exact hO12, hB12⟩
              case measure => simp [intOf]; omega
            obtain rfl : x = 0 := by omega
            have hrg := hrow.out _ hbz.out
            go_wp2_with (first | ((with_reducible change wpList _ _ _ _ _ _); refine wpList_load_mid rfl 72 (.tmp 79) rfl pb 0 rfl (fO ⟨0, ⟨m0, m3, 0, m3, 1, m5, m6, m7, m8, m9, m10, 3, 0, 5120, 512, 3840⟩⟩) _ hrg Try.underlying72 rfl (otLen _) ?_) | ((with_reducible change wpList _ _ _ _ _ _); refine wpList_store_fresh rfl 72 (.tmp 13) (.tmp 80) rfl (Ot.row ⟨0, ⟨m0, m3, 0, m3, 1, m5, m6, m7, m8, m9, m10, 3, 0, 5120, 512, 3840⟩⟩) Ot.zero.row rfl rfl 72 (otSize _) rfl (Ot.row_all _) ?_; intro w11 hH11 hb11; refine unhB ?_))
            have hrg2 : w11.rangeAt wr.heap.size 1 (fB ⟨m0, m3, 0, m3, 1, m5, m6, m7, m8, m9, m10, 3, 0, 5120, 512, 3840⟩) := range_of_row (cs := fO ⟨0, ⟨m0, m3, 0, m3, 1, m5, m6, m7, m8, m9, m10, 3, 0, 5120, 512, 3840⟩⟩) hH11 1 _ (fun j v hj => by rw [Nat.add_comm]; exact hj)
            have hb12 := hide (hbz.out.later hb11)
            replace hH11 := hide hH11
            clear hb11 hrg hbz
            refine hide ?_
            go_wp2_with (first | ((with_reducible change wpList _ _ _ _ _ _); refine wpList_load_mid rfl 56 (.tmp 81) rfl wr.heap.size 1 rfl (fB ⟨m0, m3, 0, m3, 1, m5, m6, m7, m8, m9, m10, 3, 0, 5120, 512, 3840⟩) _ hrg2 Try.underlying56 rfl (bpLen _) ?_) | ((with_reducible change wpList _ _ _ _ _ _); refine wpList_store_fresh rfl 56 (.tmp 14) (.tmp 82) rfl (Bp.row ⟨m0, m3, 0, m3, 1, m5, m6, m7, m8, m9, m10, 3, 0, 5120, 512, 3840⟩) Bp.zero.row rfl rfl 56 (bpSize _) rfl (Bp.row_all _) ?_; intro w12 hH12 hb13; refine unhB ?_))
            have hH11b := hide (heap_kept hb13 hH11.out)
            have hb14 := hide (hb12.out.later hb13)
            replace hH12 := hide hH12
            clear hb13 hb12 hH11 hrg2
            refine hide ?_
            go_wp2_with fail
            have hSS : Hid (∀ W : World, Below w12.heap.size w12 W → W.cell? ⟨wr.heap.size, 0, none⟩ = some (.int .i64 0) ∧ W.cell? ⟨w11.heap.size, 1, none⟩ = some (.int .u64 m3) ∧ W.cell? ⟨w11.heap.size, 2, none⟩ = some (.int .u64 0) ∧ W.cell? ⟨w11.heap.size, 3, none⟩ = some (.int .u64 m3) ∧ W.cell? ⟨w11.heap.size, 4, none⟩ = some (.int .i64 1) ∧ W.cell? ⟨w11.heap.size, 11, none⟩ = some (.int .i64 3) ∧ W.cell? ⟨w11.heap.size, 12, none⟩ = some (.int .i64 0) ∧ W.cell? ⟨w11.heap.size, 13, none⟩ = some (.int .i64 5120) ∧ W.cell? ⟨w11.heap.size, 14, none⟩ = some (.int .i64 512) ∧ W.cell? ⟨w11.heap.size, 15, none⟩ = some (.int .i64 3840)) := fun W hb => by
              have h1 := heap_kept hb hH11b.out
              have h2 := heap_kept hb hH12.out
              exact ⟨(cell_of_row _ _ _ _ _ _ h1).trans rfl, (cell_of_row _ _ _ _ _ _ h2).trans rfl, (cell_of_row _ _ _ _ _ _ h2).trans rfl, (cell_of_row _ _ _ _ _ _ h2).trans rfl, (cell_of_row _ _ _ _ _ _ h2).trans rfl, (cell_of_row _ _ _ _ _ _ h2).trans rfl, (cell_of_row _ _ _ _ _ _ h2).trans rfl, (cell_of_row _ _ _ _ _ _ h2).trans rfl, (cell_of_row _ _ _ _ _ _ h2).trans rfl, (cell_of_row _ _ _ _ _ _ h2).trans rfl⟩
            have hbd : Below w12.heap.size w12 w12.drew := below_drewN (Below.refl _ _) 1
            refine wp_region_noPanic ?_
            refine wp_region_held_drew (S := fun W => W.cell? ⟨wr.heap.size, 0, none⟩ = some (.int .i64 0) ∧ W.cell? ⟨w11.heap.size, 1, none⟩ = some (.int .u64 m3) ∧ W.cell? ⟨w11.heap.size, 2, none⟩ = some (.int .u64 0) ∧ W.cell? ⟨w11.heap.size, 3, none⟩ = some (.int .u64 m3) ∧ W.cell? ⟨w11.heap.size, 4, none⟩ = some (.int .i64 1) ∧ W.cell? ⟨w11.heap.size, 11, none⟩ = some (.int .i64 3) ∧ W.cell? ⟨w11.heap.size, 12, none⟩ = some (.int .i64 0) ∧ W.cell? ⟨w11.heap.size, 13, none⟩ = some (.int .i64 5120) ∧ W.cell? ⟨w11.heap.size, 14, none⟩ = some (.int .i64 512) ∧ W.cell? ⟨w11.heap.size, 15, none⟩ = some (.int .i64 3840)) (by kernel_rfl) (hSS.out _ hbd) (fun hHeld => ?_)
            refine wpAnyH_take (i := 0) (oi := { dst := some 83, op := Op.fieldAddr 72 (Operand.tmp 13) 0, type := 0, pos := "law.go:295", after := #[], guard := none }) (v := ?v1) rfl (by kernel_rfl) (by kernel_rfl) (by kernel_rfl) (fun _ _ _ h => h) (Or.inl ⟨by rfl, ?y1⟩) (by assumption) ?r1
            case y1 => (intro w hSw; (try dsimp only at hSw); (try (go_split_ands)); go_simp; try with_reducible rfl)
            try simp only [Act.put, List.setIfInBounds_toArray, List.set_cons_zero, List.set_cons_succ]
            refine wpAnyH_take (i := 1) (oi := { dst := some 84, op := Op.load 3 (Operand.tmp 83), type := 3, pos := "law.go:295", after := #[{ on := 0, ground := Ground.data }], guard := none }) (v := ?v2) rfl (by kernel_rfl) (by kernel_rfl) (by kernel_rfl) (fun _ _ _ h => h) (Or.inl ⟨by rfl, ?y2⟩) (by assumption) ?r2
            case y2 => (intro w hSw; (try dsimp only at hSw); (try (go_split_ands)); go_simp; try with_reducible rfl)
            try simp only [Act.put, List.setIfInBounds_toArray, List.set_cons_zero, List.set_cons_succ]
            refine wpAnyH_take (i := 2) (oi := { dst := some 85, op := Op.binOp BinOp.neq 3 (Operand.tmp 84) (Operand.const (Value.int IntKind.i64 0)) 3, type := 4, pos := "law.go:295", after := #[{ on := 1, ground := Ground.data }], guard := none }) (v := ?v3) rfl (by kernel_rfl) (by kernel_rfl) (by kernel_rfl) (fun _ _ _ h => h) (Or.inl ⟨by rfl, ?y3⟩) (by assumption) ?r3
            case y3 => (intro w hSw; (try dsimp only at hSw); (try (go_split_ands)); go_simp; try with_reducible rfl)
            try simp only [Act.put, List.setIfInBounds_toArray, List.set_cons_zero, List.set_cons_succ]
            refine wpAnyH_take (i := 3) (oi := { dst := some 86, op := Op.move (Operand.tmp 85), type := 4, pos := "law.go:295", after := #[{ on := 2, ground := Ground.data }], guard := none }) (v := ?v4) rfl (by kernel_rfl) (by kernel_rfl) (by kernel_rfl) (fun _ _ _ h => h) (Or.inl ⟨by rfl, ?y4⟩) (by assumption) ?r4
            case y4 => (intro w hSw; (try dsimp only at hSw); (try (go_split_ands)); go_simp; try with_reducible rfl)
            try simp only [Act.put, List.setIfInBounds_toArray, List.set_cons_zero, List.set_cons_succ]
            refine wpAnyH_take (i := 4) (oi := { dst := some 87, op := Op.fieldAddr 56 (Operand.tmp 14) 1, type := 0, pos := "law.go:295", after := #[{ on := 3, ground := Ground.guard }], guard := some (3, false) }) (v := ?v5) rfl (by kernel_rfl) (by kernel_rfl) (by kernel_rfl) (fun _ _ _ h => h) (Or.inl ⟨by rfl, ?y5⟩) (by assumption) ?r5
            case y5 => (intro w hSw; (try dsimp only at hSw); (try (go_split_ands)); go_simp; try with_reducible rfl)
            try simp only [Act.put, List.setIfInBounds_toArray, List.set_cons_zero, List.set_cons_succ]
            refine wpAnyH_take (i := 5) (oi := { dst := some 88, op := Op.load 26 (Operand.tmp 87), type := 26, pos := "law.go:295", after := #[{ on := 4, ground := Ground.data }, { on := 3, ground := Ground.guard }], guard := some (3, false) }) (v := ?v6) rfl (by kernel_rfl) (by kernel_rfl) (by kernel_rfl) (fun _ _ _ h => h) (Or.inl ⟨by rfl, ?y6⟩) (by assumption) ?r6
            case y6 => (intro w hSw; (try dsimp only at hSw); (try (go_split_ands)); go_simp; try with_reducible rfl)
            try simp only [Act.put, List.setIfInBounds_toArray, List.set_cons_zero, List.set_cons_succ]
            refine wpAnyH_take (i := 6) (oi := { dst := some 89, op := Op.move (Operand.tmp 0), type := 22, pos := "law.go:295", after := #[{ on := 3, ground := Ground.guard }], guard := some (3, false) }) (v := ?v7) rfl (by kernel_rfl) (by kernel_rfl) (by kernel_rfl) (fun _ _ _ h => h) (Or.inl ⟨by rfl, ?y7⟩) (by assumption) ?r7
            case y7 => (intro w hSw; (try dsimp only at hSw); (try (go_split_ands)); go_simp; try with_reducible rfl)
            try simp only [Act.put, List.setIfInBounds_toArray, List.set_cons_zero, List.set_cons_succ]
            refine wpAnyH_ready (rs := [7]) (by kernel_rfl) (by simp) ?_
            refine AllReadyH.cons (o := { dst := some 90, op := Op.call { callee := Callee.value (Operand.func 42), args := #[Operand.tmp 89, Operand.const (Value.int IntKind.i64 1)], argTypes := #[22, 3] }, type := 26, pos := "law.go:295", after := #[{ on := 6, ground := Ground.data }, { on := 3, ground := Ground.chain }, { on := 3, ground := Ground.guard }], guard := some (3, false) }) rfl (fun K hK => ?_) AllReadyH.nil
            go_simp
            refine (Own_any m3 1 _).mono ?_
            rintro e w13 ⟨rfl, hb15⟩
            have hb16 := hbd.later hb15
            clear hb15
            go_wp2_with fail
            refine hK.out _ _ ?_ (fun hHeld7 => ?_)
            · exact hSS.out _ hb16
            clear hK K
            try simp only [Act.put, List.setIfInBounds_toArray, List.set_cons_zero, List.set_cons_succ]
            refine wpAnyH_take (i := 8) (oi := { dst := some 91, op := Op.binOp BinOp.neq 26 (Operand.tmp 88) (Operand.tmp 90) 26, type := 4, pos := "law.go:295", after := #[{ on := 5, ground := Ground.data }, { on := 7, ground := Ground.data }, { on := 3, ground := Ground.guard }], guard := some (3, false) }) (v := ?v8) rfl (by kernel_rfl) (by kernel_rfl) (by kernel_rfl) (fun _ _ _ h => h) (Or.inl ⟨by rfl, ?y8⟩) (by assumption) ?r8
            case y8 => (intro w hSw; (try dsimp only at hSw); (try (go_split_ands)); go_simp; try with_reducible rfl)
            try simp only [Act.put, List.setIfInBounds_toArray, List.set_cons_zero, List.set_cons_succ]
            refine wpAnyH_take (i := 9) (oi := { dst := some 92, op := Op.pick (Operand.tmp 86) (Operand.const (Value.bool true)) (Operand.tmp 91), type := 4, pos := "law.go:295", after := #[{ on := 3, ground := Ground.data }, { on := 8, ground := Ground.data }], guard := none }) (v := ?v9) rfl (by kernel_rfl) (by kernel_rfl) (by kernel_rfl) (fun _ _ _ h => h) (Or.inl ⟨by rfl, ?y9⟩) (by assumption) ?r9
            case y9 => (intro w hSw; (try dsimp only at hSw); (try (go_split_ands)); go_simp; try with_reducible rfl)
            try simp only [Act.put, List.setIfInBounds_toArray, List.set_cons_zero, List.set_cons_succ]
            refine wpAnyH_take (i := 10) (oi := { dst := some 93, op := Op.move (Operand.tmp 92), type := 4, pos := "law.go:295", after := #[{ on := 9, ground := Ground.data }, { on := 7, ground := Ground.chain }], guard := none }) (v := ?v10) rfl (by kernel_rfl) (by kernel_rfl) (by kernel_rfl) (fun _ _ _ h => h) (Or.inl ⟨by rfl, ?y10⟩) (by assumption) ?r10
            case y10 => (intro w hSw; (try dsimp only at hSw); (try (go_split_ands)); go_simp; try with_reducible rfl)
            try simp only [Act.put, List.setIfInBounds_toArray, List.set_cons_zero, List.set_cons_succ]
            refine wpAnyH_take (i := 11) (oi := { dst := some 94, op := Op.fieldAddr 56 (Operand.tmp 14) 9, type := 0, pos := "law.go:295", after := #[{ on := 10, ground := Ground.guard }], guard := some (10, false) }) (v := ?v11) rfl (by kernel_rfl) (by kernel_rfl) (by kernel_rfl) (fun _ _ _ h => h) (Or.inl ⟨by rfl, ?y11⟩) (by assumption) ?r11
            case y11 => (intro w hSw; (try dsimp only at hSw); (try (go_split_ands)); go_simp; try with_reducible rfl)
            try simp only [Act.put, List.setIfInBounds_toArray, List.set_cons_zero, List.set_cons_succ]
            refine wpAnyH_take (i := 12) (oi := { dst := some 95, op := Op.load 3 (Operand.tmp 94), type := 3, pos := "law.go:295", after := #[{ on := 11, ground := Ground.data }, { on := 10, ground := Ground.guard }], guard := some (10, false) }) (v := ?v12) rfl (by kernel_rfl) (by kernel_rfl) (by kernel_rfl) (fun _ _ _ h => h) (Or.inl ⟨by rfl, ?y12⟩) (by assumption) ?r12
            case y12 => (intro w hSw; (try dsimp only at hSw); (try (go_split_ands)); go_simp; try with_reducible rfl)
            try simp only [Act.put, List.setIfInBounds_toArray, List.set_cons_zero, List.set_cons_succ]
            refine wpAnyH_take (i := 13) (oi := { dst := some 96, op := Op.binOp BinOp.neq 3 (Operand.tmp 95) (Operand.const (Value.int IntKind.i64 0)) 3, type := 4, pos := "law.go:295", after := #[{ on := 12, ground := Ground.data }, { on := 10, ground := Ground.guard }], guard := some (10, false) }) (v := ?v13) rfl (by kernel_rfl) (by kernel_rfl) (by kernel_rfl) (fun _ _ _ h => h) (Or.inl ⟨by rfl, ?y13⟩) (by assumption) ?r13
            case y13 => (intro w hSw; (try dsimp only at hSw); (try (go_split_ands)); go_simp; try with_reducible rfl)
            try simp only [Act.put, List.setIfInBounds_toArray, List.set_cons_zero, List.set_cons_succ]
            refine wpAnyH_take (i := 14) (oi := { dst := some 97, op := Op.pick (Operand.tmp 93) (Operand.const (Value.bool true)) (Operand.tmp 96), type := 4, pos := "law.go:295", after := #[{ on := 10, ground := Ground.data }, { on := 13, ground := Ground.data }], guard := none }) (v := ?v14) rfl (by kernel_rfl) (by kernel_rfl) (by kernel_rfl) (fun _ _ _ h => h) (Or.inl ⟨by rfl, ?y14⟩) (by assumption) ?r14
            case y14 => (intro w hSw; (try dsimp only at hSw); (try (go_split_ands)); go_simp; try with_reducible rfl)
            try simp only [Act.put, List.setIfInBounds_toArray, List.set_cons_zero, List.set_cons_succ]
            refine wpAnyH_take (i := 15) (oi := { dst := some 98, op := Op.move (Operand.tmp 97), type := 4, pos := "law.go:295", after := #[{ on := 14, ground := Ground.data }, { on := 10, ground := Ground.chain }], guard := none }) (v := ?v15) rfl (by kernel_rfl) (by kernel_rfl) (by kernel_rfl) (fun _ _ _ h => h) (Or.inl ⟨by rfl, ?y15⟩) (by assumption) ?r15
            case y15 => (intro w hSw; (try dsimp only at hSw); (try (go_split_ands)); go_simp; try with_reducible rfl)
            try simp only [Act.put, List.setIfInBounds_toArray, List.set_cons_zero, List.set_cons_succ]
            refine wpAnyH_take (i := 16) (oi := { dst := some 99, op := Op.fieldAddr 56 (Operand.tmp 14) 10, type := 0, pos := "law.go:295", after := #[{ on := 15, ground := Ground.guard }], guard := some (15, false) }) (v := ?v16) rfl (by kernel_rfl) (by kernel_rfl) (by kernel_rfl) (fun _ _ _ h => h) (Or.inl ⟨by rfl, ?y16⟩) (by assumption) ?r16
            case y16 => (intro w hSw; (try dsimp only at hSw); (try (go_split_ands)); go_simp; try with_reducible rfl)
            try simp only [Act.put, List.setIfInBounds_toArray, List.set_cons_zero, List.set_cons_succ]
            refine wpAnyH_take (i := 17) (oi := { dst := some 100, op := Op.load 3 (Operand.tmp 99), type := 3, pos := "law.go:295", after := #[{ on := 16, ground := Ground.data }, { on := 15, ground := Ground.guard }], guard := some (15, false) }) (v := ?v17) rfl (by kernel_rfl) (by kernel_rfl) (by kernel_rfl) (fun _ _ _ h => h) (Or.inl ⟨by rfl, ?y17⟩) (by assumption) ?r17
            case y17 => (intro w hSw; (try dsimp only at hSw); (try (go_split_ands)); go_simp; try with_reducible rfl)
            try simp only [Act.put, List.setIfInBounds_toArray, List.set_cons_zero, List.set_cons_succ]
            refine wpAnyH_take (i := 18) (oi := { dst := some 101, op := Op.binOp BinOp.neq 3 (Operand.tmp 100) (Operand.const (Value.int IntKind.i64 5120)) 3, type := 4, pos := "law.go:295", after := #[{ on := 17, ground := Ground.data }, { on := 15, ground := Ground.guard }], guard := some (15, false) }) (v := ?v18) rfl (by kernel_rfl) (by kernel_rfl) (by kernel_rfl) (fun _ _ _ h => h) (Or.inl ⟨by rfl, ?y18⟩) (by assumption) ?r18
            case y18 => (intro w hSw; (try dsimp only at hSw); (try (go_split_ands)); go_simp; try with_reducible rfl)
            try simp only [Act.put, List.setIfInBounds_toArray, List.set_cons_zero, List.set_cons_succ]
            refine wpAnyH_take (i := 19) (oi := { dst := some 102, op := Op.pick (Operand.tmp 98) (Operand.const (Value.bool true)) (Operand.tmp 101), type := 4, pos := "law.go:295", after := #[{ on := 15, ground := Ground.data }, { on := 18, ground := Ground.data }], guard := none }) (v := ?v19) rfl (by kernel_rfl) (by kernel_rfl) (by kernel_rfl) (fun _ _ _ h => h) (Or.inl ⟨by rfl, ?y19⟩) (by assumption) ?r19
            case y19 => (intro w hSw; (try dsimp only at hSw); (try (go_split_ands)); go_simp; try with_reducible rfl)
            try simp only [Act.put, List.setIfInBounds_toArray, List.set_cons_zero, List.set_cons_succ]
            refine wpAnyH_take (i := 20) (oi := { dst := some 103, op := Op.move (Operand.tmp 102), type := 4, pos := "law.go:295", after := #[{ on := 19, ground := Ground.data }, { on := 15, ground := Ground.chain }], guard := none }) (v := ?v20) rfl (by kernel_rfl) (by kernel_rfl) (by kernel_rfl) (fun _ _ _ h => h) (Or.inl ⟨by rfl, ?y20⟩) (by assumption) ?r20
            case y20 => (intro w hSw; (try dsimp only at hSw); (try (go_split_ands)); go_simp; try with_reducible rfl)
            try simp only [Act.put, List.setIfInBounds_toArray, List.set_cons_zero, List.set_cons_succ]
            refine wpAnyH_take (i := 21) (oi := { dst := some 104, op := Op.fieldAddr 56 (Operand.tmp 14) 11, type := 0, pos := "law.go:295", after := #[{ on := 20, ground := Ground.guard }], guard := some (20, false) }) (v := ?v21) rfl (by kernel_rfl) (by kernel_rfl) (by kernel_rfl) (fun _ _ _ h => h) (Or.inl ⟨by rfl, ?y21⟩) (by assumption) ?r21
            case y21 => (intro w hSw; (try dsimp only at hSw); (try (go_split_ands)); go_simp; try with_reducible rfl)
            try simp only [Act.put, List.setIfInBounds_toArray, List.set_cons_zero, List.set_cons_succ]
            refine wpAnyH_take (i := 22) (oi := { dst := some 105, op := Op.load 3 (Operand.tmp 104), type := 3, pos := "law.go:295", after := #[{ on := 21, ground := Ground.data }, { on := 20, ground := Ground.guard }], guard := some (20, false) }) (v := ?v22) rfl (by kernel_rfl) (by kernel_rfl) (by kernel_rfl) (fun _ _ _ h => h) (Or.inl ⟨by rfl, ?y22⟩) (by assumption) ?r22
            case y22 => (intro w hSw; (try dsimp only at hSw); (try (go_split_ands)); go_simp; try with_reducible rfl)
            try simp only [Act.put, List.setIfInBounds_toArray, List.set_cons_zero, List.set_cons_succ]
            refine wpAnyH_take (i := 23) (oi := { dst := some 106, op := Op.binOp BinOp.neq 3 (Operand.tmp 105) (Operand.const (Value.int IntKind.i64 512)) 3, type := 4, pos := "law.go:295", after := #[{ on := 22, ground := Ground.data }, { on := 20, ground := Ground.guard }], guard := some (20, false) }) (v := ?v23) rfl (by kernel_rfl) (by kernel_rfl) (by kernel_rfl) (fun _ _ _ h => h) (Or.inl ⟨by rfl, ?y23⟩) (by assumption) ?r23
            case y23 => (intro w hSw; (try dsimp only at hSw); (try (go_split_ands)); go_simp; try with_reducible rfl)
            try simp only [Act.put, List.setIfInBounds_toArray, List.set_cons_zero, List.set_cons_succ]
            refine wpAnyH_take (i := 24) (oi := { dst := some 107, op := Op.pick (Operand.tmp 103) (Operand.const (Value.bool true)) (Operand.tmp 106), type := 4, pos := "law.go:295", after := #[{ on := 20, ground := Ground.data }, { on := 23, ground := Ground.data }], guard := none }) (v := ?v24) rfl (by kernel_rfl) (by kernel_rfl) (by kernel_rfl) (fun _ _ _ h => h) (Or.inl ⟨by rfl, ?y24⟩) (by assumption) ?r24
            case y24 => (intro w hSw; (try dsimp only at hSw); (try (go_split_ands)); go_simp; try with_reducible rfl)
            try simp only [Act.put, List.setIfInBounds_toArray, List.set_cons_zero, List.set_cons_succ]
            refine wpAnyH_take (i := 25) (oi := { dst := some 108, op := Op.move (Operand.tmp 107), type := 4, pos := "law.go:295", after := #[{ on := 24, ground := Ground.data }, { on := 20, ground := Ground.chain }], guard := none }) (v := ?v25) rfl (by kernel_rfl) (by kernel_rfl) (by kernel_rfl) (fun _ _ _ h => h) (Or.inl ⟨by rfl, ?y25⟩) (by assumption) ?r25
            case y25 => (intro w hSw; (try dsimp only at hSw); (try (go_split_ands)); go_simp; try with_reducible rfl)
            try simp only [Act.put, List.setIfInBounds_toArray, List.set_cons_zero, List.set_cons_succ]
            refine wpAnyH_take (i := 26) (oi := { dst := some 109, op := Op.fieldAddr 56 (Operand.tmp 14) 12, type := 0, pos := "law.go:295", after := #[{ on := 25, ground := Ground.guard }], guard := some (25, false) }) (v := ?v26) rfl (by kernel_rfl) (by kernel_rfl) (by kernel_rfl) (fun _ _ _ h => h) (Or.inl ⟨by rfl, ?y26⟩) (by assumption) ?r26
            case y26 => (intro w hSw; (try dsimp only at hSw); (try (go_split_ands)); go_simp; try with_reducible rfl)
            try simp only [Act.put, List.setIfInBounds_toArray, List.set_cons_zero, List.set_cons_succ]
            refine wpAnyH_take (i := 27) (oi := { dst := some 110, op := Op.load 3 (Operand.tmp 109), type := 3, pos := "law.go:295", after := #[{ on := 26, ground := Ground.data }, { on := 25, ground := Ground.guard }], guard := some (25, false) }) (v := ?v27) rfl (by kernel_rfl) (by kernel_rfl) (by kernel_rfl) (fun _ _ _ h => h) (Or.inl ⟨by rfl, ?y27⟩) (by assumption) ?r27
            case y27 => (intro w hSw; (try dsimp only at hSw); (try (go_split_ands)); go_simp; try with_reducible rfl)
            try simp only [Act.put, List.setIfInBounds_toArray, List.set_cons_zero, List.set_cons_succ]
            refine wpAnyH_take (i := 28) (oi := { dst := some 111, op := Op.binOp BinOp.neq 3 (Operand.tmp 110) (Operand.const (Value.int IntKind.i64 3840)) 3, type := 4, pos := "law.go:295", after := #[{ on := 27, ground := Ground.data }, { on := 25, ground := Ground.guard }], guard := some (25, false) }) (v := ?v28) rfl (by kernel_rfl) (by kernel_rfl) (by kernel_rfl) (fun _ _ _ h => h) (Or.inl ⟨by rfl, ?y28⟩) (by assumption) ?r28
            case y28 => (intro w hSw; (try dsimp only at hSw); (try (go_split_ands)); go_simp; try with_reducible rfl)
            try simp only [Act.put, List.setIfInBounds_toArray, List.set_cons_zero, List.set_cons_succ]
            refine wpAnyH_take (i := 29) (oi := { dst := some 112, op := Op.pick (Operand.tmp 108) (Operand.const (Value.bool true)) (Operand.tmp 111), type := 4, pos := "law.go:295", after := #[{ on := 25, ground := Ground.data }, { on := 28, ground := Ground.data }], guard := none }) (v := ?v29) rfl (by kernel_rfl) (by kernel_rfl) (by kernel_rfl) (fun _ _ _ h => h) (Or.inl ⟨by rfl, ?y29⟩) (by assumption) ?r29
            case y29 => (intro w hSw; (try dsimp only at hSw); (try (go_split_ands)); go_simp; try with_reducible rfl)
            try simp only [Act.put, List.setIfInBounds_toArray, List.set_cons_zero, List.set_cons_succ]
            refine wpAnyH_take (i := 30) (oi := { dst := some 113, op := Op.move (Operand.tmp 112), type := 4, pos := "law.go:295", after := #[{ on := 29, ground := Ground.data }, { on := 25, ground := Ground.chain }], guard := none }) (v := ?v30) rfl (by kernel_rfl) (by kernel_rfl) (by kernel_rfl) (fun _ _ _ h => h) (Or.inl ⟨by rfl, ?y30⟩) (by assumption) ?r30
            case y30 => (intro w hSw; (try dsimp only at hSw); (try (go_split_ands)); go_simp; try with_reducible rfl)
            try simp only [Act.put, List.setIfInBounds_toArray, List.set_cons_zero, List.set_cons_succ]
            refine wpAnyH_take (i := 31) (oi := { dst := some 114, op := Op.fieldAddr 56 (Operand.tmp 14) 8, type := 0, pos := "law.go:295", after := #[{ on := 30, ground := Ground.guard }], guard := some (30, false) }) (v := ?v31) rfl (by kernel_rfl) (by kernel_rfl) (by kernel_rfl) (fun _ _ _ h => h) (Or.inl ⟨by rfl, ?y31⟩) (by assumption) ?r31
            case y31 => (intro w hSw; (try dsimp only at hSw); (try (go_split_ands)); go_simp; try with_reducible rfl)
            try simp only [Act.put, List.setIfInBounds_toArray, List.set_cons_zero, List.set_cons_succ]
            refine wpAnyH_take (i := 32) (oi := { dst := some 115, op := Op.load 3 (Operand.tmp 114), type := 3, pos := "law.go:295", after := #[{ on := 31, ground := Ground.data }, { on := 30, ground := Ground.guard }], guard := some (30, false) }) (v := ?v32) rfl (by kernel_rfl) (by kernel_rfl) (by kernel_rfl) (fun _ _ _ h => h) (Or.inl ⟨by rfl, ?y32⟩) (by assumption) ?r32
            case y32 => (intro w hSw; (try dsimp only at hSw); (try (go_split_ands)); go_simp; try with_reducible rfl)
            try simp only [Act.put, List.setIfInBounds_toArray, List.set_cons_zero, List.set_cons_succ]
            refine wpAnyH_take (i := 33) (oi := { dst := some 116, op := Op.binOp BinOp.neq 3 (Operand.tmp 115) (Operand.const (Value.int IntKind.i64 3)) 3, type := 4, pos := "law.go:295", after := #[{ on := 32, ground := Ground.data }, { on := 30, ground := Ground.guard }], guard := some (30, false) }) (v := ?v33) rfl (by kernel_rfl) (by kernel_rfl) (by kernel_rfl) (fun _ _ _ h => h) (Or.inl ⟨by rfl, ?y33⟩) (by assumption) ?r33
            case y33 => (intro w hSw; (try dsimp only at hSw); (try (go_split_ands)); go_simp; try with_reducible rfl)
            try simp only [Act.put, List.setIfInBounds_toArray, List.set_cons_zero, List.set_cons_succ]
            refine wpAnyH_take (i := 34) (oi := { dst := some 117, op := Op.pick (Operand.tmp 113) (Operand.const (Value.bool true)) (Operand.tmp 116), type := 4, pos := "law.go:295", after := #[{ on := 30, ground := Ground.data }, { on := 33, ground := Ground.data }], guard := none }) (v := ?v34) rfl (by kernel_rfl) (by kernel_rfl) (by kernel_rfl) (fun _ _ _ h => h) (Or.inl ⟨by rfl, ?y34⟩) (by assumption) ?r34
            case y34 => (intro w hSw; (try dsimp only at hSw); (try (go_split_ands)); go_simp; try with_reducible rfl)
            try simp only [Act.put, List.setIfInBounds_toArray, List.set_cons_zero, List.set_cons_succ]
            refine wpAnyH_done (by kernel_rfl) ?_ _
            refine NoPanic.normal ?_
            have hb17 := hide (hb14.out.later hb16)
            clear hHeld hHeld7 hSS hbd hb16 hH11b hH12 hb14
            go_wp2
            go_round
            case rel => exact ⟨1, Nat.le_refl _, by go_num, hb17⟩
            case measure => simp [intOf]
end Go.Proofs.Ytaepjiakehkeoaa
