/-
  bpdu.Build of a rapid message. Conditions: numbers within their kinds.
-/
import Derived.Test.YtmakaadmjgakaaaDoorBp8
namespace Go.Proofs.YtmakaadmjgakaaaDoor
open Go.RowKit
set_option linter.unusedVariables false

theorem bs_zero (w : World) : Bs (w.alloc (.cells #[.int .u8 0] 5)) (.slice (some ⟨w.heap.size, 0, none⟩) 1 1) [0] :=
  Bs.mk_at (l := [0]) (by intro z hz; simp at hz; omega) (Nat.le_refl _) (by decide) fun i hi => by
    obtain rfl : i = 0 := by simpa using hi
    rw [World.cell?_alloc_new]; rfl
theorem Join_three (w : World) {v1 v2 v3 : Value} {l1 l2 l3 : List Int} (g : Nat) (hg : g = w.heap.size) (h1 : Bs w v1 l1) (h2 : Bs w v2 l2) (h3 : Bs w v3 l3) (hT : (l1 ++ (l2 ++ l3)).length ≤ 1000000) :
    Calls Tryd.prog 53 #[.slice (some ⟨g, 0, none⟩) 3 3] (w.alloc (.cells #[v1, v2, v3] 26)) fun e w' => ∃ a n c, e = .returned (.slice a n c) ∧ Bs w' (.slice a n c) (l1 ++ (l2 ++ l3)) ∧ Below w.heap.size w w' := by
  have hJ := Join_lit (w := w) [v1, v2, v3] [l1, l2, l3] 3 g _ rfl rfl hg (by decide) (fun i hi => by
    match i, hi with
    | 0, _ => exact h1
    | 1, _ => exact h2
    | 2, _ => exact h3) rfl (by simp at hT ⊢; omega)
  refine hJ.mono ?_
  rintro e w' ⟨rfl, hB, hb⟩
  exact ⟨_, _, _, rfl, by simpa using hB, hb⟩
set_option maxRecDepth 20000 in
set_option maxHeartbeats 1000000 in
theorem BBuild_rapid (b : Bp) (w : World) (hW : b.wf) (hE : bcheckE b = 0) (h0 : b.kind = 1) (hF : b.fits) :
    Calls Tryd.prog 16 #[.agg b.row] w fun e w' => ∃ va n k, e = .returned (.tuple #[.slice va n k, .int .i64 0]) ∧ Bs w' (.slice va n k) (nsL (headP 2 2) ++ (nsL (toldP b) ++ [0])) ∧ Below w.heap.size w w' := by
  have hk := heap_alloc_new w (.cells b.row 41)
  have hC := hide (fun w => BCheck_any b w hW)
  rw [hE] at hC
  have hH := hide (fun w => head_any 2 2 w (by decide) (by decide))
  have hO := hide (fun w => told_any b w hF)
  have h2' : (b.kind == 2) = false := by rw [h0]; rfl
  have h1' : (b.kind == 1) = true := by rw [h0]; rfl
  have hl1 : Hid ((nsL (headP 2 2)).length ≤ 100) := Nat.le_trans (nsL_len _ (by intro p hp; simp [headP] at hp; rcases hp with rfl | rfl | rfl <;> decide)) (by simp [headP])
  have hl2 : Hid ((nsL (toldP b)).length ≤ 100) := Nat.le_trans (nsL_len _ (by intro p hp; simp [toldP] at hp; rcases hp with rfl | rfl | rfl | rfl | rfl | rfl | rfl | rfl | rfl <;> simp)) (by simp [toldP])
  clear hE hF h0
  go_enter Tryd.func16, Tryd.ntmps16
  go_wp2_with (first | ((with_reducible change wpList _ _ _ _ _ _); refine wpList_load_row rfl 41 (.tmp 1) rfl w.heap.size rfl 41 _ _ _ hk Tryd.underlying41 rfl (bpSize _) ?_) | (go_at_call 15; refine (hC.out _).mono ?_; rintro e w1 ⟨rfl, hb1⟩; have hk1 := heap_kept hb1 hk; have c0 : w1.cell? ⟨w.heap.size, 0, none⟩ = some (.int .i64 b.kind) := (cell_of_row _ _ _ _ _ _ hk1).trans rfl))
  have hW1 := hide ((below1 w _).later hb1)
  clear hb1 hk hC c0
  refine wp_region_noPanic ?_
  refine wp_region_held_drew (S := fun W => Below w1.heap.size w1 W) (by kernel_rfl) (below_drewN (Below.refl _ _) 1) (fun hHeld => ?_)
  refine wpAnyH_take (i := 1) (oi := { dst := some 18, op := Op.load 41 (Operand.tmp 1), type := 41, pos := "bpdu.go:213", after := #[], guard := none }) (v := _) rfl (by kernel_rfl) (by kernel_rfl) (by kernel_rfl) (fun _ _ _ h => h) (yieldsIf_load_row rfl 41 _ rfl w.heap.size rfl 41 _ _ _ (fun W h => heap_kept h hk1) Tryd.underlying41 rfl (bpSize _)) (by assumption) ?_
  try simp only [Act.put, List.setIfInBounds_toArray, List.set_cons_zero, List.set_cons_succ]
  refine wpAnyH_ready (rs := [0, 3]) (by kernel_rfl) (by simp) ?_
  refine AllReadyH.cons (o := { dst := some 17, op := Op.call { callee := Callee.value (Operand.func 52), args := #[Operand.const (Value.int IntKind.u64 2), Operand.const (Value.int IntKind.u64 2)], argTypes := #[37, 37] }, type := 26, pos := "bpdu.go:213", after := #[], guard := none }) rfl (fun K hK => ?_) (AllReadyH.cons (o := { dst := some 20, op := Op.buildSlice 26 1 #[(0, Operand.const (Value.int IntKind.u8 0))], type := 26, pos := "bpdu.go:213", after := #[], guard := none }) rfl (fun K hK => ?_) AllReadyH.nil)
  · go_simp
    refine (hH.out _).mono ?_
    rintro e w2 ⟨va, n, k, rfl, hB2, hb2⟩
    have hb2' : Below w1.heap.size w1 w2 := (below_drewN (Below.refl w1.heap.size w1) 1).later hb2
    go_wp2_with fail
    refine hK.out _ _ ?_ (fun hHeld0 => ?_)
    · exact hb2'
    clear hK K
    try simp only [Act.put, List.setIfInBounds_toArray, List.set_cons_zero, List.set_cons_succ]
    refine wpAnyH_ready (rs := [2, 3]) (by kernel_rfl) (by simp) ?_
    refine AllReadyH.cons (o := { dst := some 19, op := Op.call { callee := Callee.value (Operand.func 54), args := #[Operand.tmp 18], argTypes := #[41] }, type := 26, pos := "bpdu.go:213", after := #[{ on := 1, ground := Ground.data }, { on := 0, ground := Ground.chain }], guard := none }) rfl (fun K hK => ?_) (AllReadyH.cons (o := { dst := some 20, op := Op.buildSlice 26 1 #[(0, Operand.const (Value.int IntKind.u8 0))], type := 26, pos := "bpdu.go:213", after := #[], guard := none }) rfl (fun K hK => ?_) AllReadyH.nil)
    · go_simp
      refine (hO.out _).mono ?_
      rintro e w3 ⟨ua, un, uk, rfl, hB3, hb3⟩
      have hb3' := hb2'.later hb3
      have hB2' := hB2.below hb3
      go_wp2_with fail
      refine hK.out _ _ ?_ (fun hHeld2 => ?_)
      · exact hb3'
      clear hK K
      try simp only [Act.put, List.setIfInBounds_toArray, List.set_cons_zero, List.set_cons_succ]
      refine wpAnyH_ready (rs := [3]) (by kernel_rfl) (by simp) ?_
      refine AllReadyH.cons (o := { dst := some 20, op := Op.buildSlice 26 1 #[(0, Operand.const (Value.int IntKind.u8 0))], type := 26, pos := "bpdu.go:213", after := #[], guard := none }) rfl (fun K hK => ?_) AllReadyH.nil
      go_simp
      have hz := below1 w3 (.cells #[.int .u8 0] 5)
      refine hK.out _ _ (hb3'.later hz) (fun hHeld3 => ?_)
      clear hK K
      try simp only [Act.put, List.setIfInBounds_toArray, List.set_cons_zero, List.set_cons_succ]
      refine wpAnyH_ready (rs := [4]) (by kernel_rfl) (by simp) ?_
      refine AllReadyH.cons (o := { dst := some 21, op := Op.buildSlice 96 3 #[(0, Operand.tmp 17), (1, Operand.tmp 19), (2, Operand.tmp 20)], type := 96, pos := "bpdu.go:213", after := #[{ on := 0, ground := Ground.data }, { on := 2, ground := Ground.data }, { on := 3, ground := Ground.data }], guard := none }) rfl (fun K hK => ?_) AllReadyH.nil
      go_simp
      have hbT := (hb3'.later hz).later (below1 (w3.alloc (.cells #[.int .u8 0] 5)) (.cells #[.slice va n k, .slice ua un uk, .slice (some ⟨w3.heap.size, 0, none⟩) 1 1] 26))
      refine hK.out _ _ hbT (fun hHeld4 => ?_)
      clear hK K
      try simp only [Act.put, List.setIfInBounds_toArray, List.set_cons_zero, List.set_cons_succ]
      refine wpAnyH_ready (rs := [5]) (by kernel_rfl) (by simp) ?_
      refine AllReadyH.cons (o := { dst := some 22, op := Op.call { callee := Callee.value (Operand.func 53), args := #[Operand.tmp 21], argTypes := #[96] }, type := 26, pos := "bpdu.go:213", after := #[{ on := 4, ground := Ground.data }, { on := 2, ground := Ground.chain }], guard := none }) rfl (fun K hK => ?_) AllReadyH.nil
      go_simp
      have hJ := Join_three (w3.alloc (.cells #[.int .u8 0] 5)) (w3.heap.size + 1) (World.size_alloc _ _).symm (hB2'.below hz) (hB3.below hz) (bs_zero w3) (by have := hl1.out; have := hl2.out; simp; omega)
      refine hJ.mono ?_
      rintro e wE ⟨la, ln, lc, rfl, hBE, hbE⟩
      have hbE' := (hb3'.later hz).later hbE
      go_wp2_with fail
      refine hK.out _ _ ?_ (fun hHeld5 => ?_)
      · exact hbE'
      clear hK K
      try simp only [Act.put, List.setIfInBounds_toArray, List.set_cons_zero, List.set_cons_succ]
      refine wpAnyH_take (i := 6) (oi := { dst := some 2, op := Op.assign (Operand.tmp 22), type := 26, pos := "bpdu.go:213", after := #[{ on := 5, ground := Ground.data }, { on := 5, ground := Ground.chain }, { on := 0, ground := Ground.phase }, { on := 1, ground := Ground.phase }, { on := 2, ground := Ground.phase }, { on := 3, ground := Ground.phase }, { on := 4, ground := Ground.phase }, { on := 5, ground := Ground.phase }], guard := none }) (v := ?v1) rfl (by kernel_rfl) (by kernel_rfl) (by kernel_rfl) (fun _ _ _ h => h) (Or.inl ⟨by rfl, ?y1⟩) (by assumption) ?r1
      case y1 => (intro w hSw; (try dsimp only at hSw); (try (go_split_ands)); go_simp; try with_reducible rfl)
      try simp only [Act.put, List.setIfInBounds_toArray, List.set_cons_zero, List.set_cons_succ]
      refine wpAnyH_take (i := 7) (oi := { dst := some 3, op := Op.assign (Operand.const (Value.int IntKind.i64 0)), type := 29, pos := "bpdu.go:213", after := #[{ on := 6, ground := Ground.chain }, { on := 0, ground := Ground.phase }, { on := 1, ground := Ground.phase }, { on := 2, ground := Ground.phase }, { on := 3, ground := Ground.phase }, { on := 4, ground := Ground.phase }, { on := 5, ground := Ground.phase }, { on := 6, ground := Ground.phase }], guard := none }) (v := ?v2) rfl (by kernel_rfl) (by kernel_rfl) (by kernel_rfl) (fun _ _ _ h => h) (Or.inl ⟨by rfl, ?y2⟩) (by assumption) ?r2
      case y2 => (intro w hSw; (try dsimp only at hSw); (try (go_split_ands)); go_simp; try with_reducible rfl)
      try simp only [Act.put, List.setIfInBounds_toArray, List.set_cons_zero, List.set_cons_succ]
      refine wpAnyH_done (by kernel_rfl) ?_ _
      refine NoPanic.normal ?_
      go_wp2
      go_ret2
      exact ⟨_, _, _, rfl, hBE, hW1.out.later hbE'⟩
    · go_simp
      have hz := below1 w2 (.cells #[.int .u8 0] 5)
      refine hK.out _ _ (hb2'.later hz) (fun hHeld3 => ?_)
      clear hK K
      try simp only [Act.put, List.setIfInBounds_toArray, List.set_cons_zero, List.set_cons_succ]
      refine wpAnyH_ready (rs := [2]) (by kernel_rfl) (by simp) ?_
      refine AllReadyH.cons (o := { dst := some 19, op := Op.call { callee := Callee.value (Operand.func 54), args := #[Operand.tmp 18], argTypes := #[41] }, type := 26, pos := "bpdu.go:213", after := #[{ on := 1, ground := Ground.data }, { on := 0, ground := Ground.chain }], guard := none }) rfl (fun K hK => ?_) AllReadyH.nil
      go_simp
      refine (hO.out _).mono ?_
      rintro e w3 ⟨ua, un, uk, rfl, hB3, hb3⟩
      have hb3' := (hb2'.later hz).later hb3
      have hB2' := (hB2.below hz).below hb3
      have hZ3 := (bs_zero w2).below hb3
      go_wp2_with fail
      refine hK.out _ _ ?_ (fun hHeld2 => ?_)
      · exact hb3'
      clear hK K
      try simp only [Act.put, List.setIfInBounds_toArray, List.set_cons_zero, List.set_cons_succ]
      refine wpAnyH_ready (rs := [4]) (by kernel_rfl) (by simp) ?_
      refine AllReadyH.cons (o := { dst := some 21, op := Op.buildSlice 96 3 #[(0, Operand.tmp 17), (1, Operand.tmp 19), (2, Operand.tmp 20)], type := 96, pos := "bpdu.go:213", after := #[{ on := 0, ground := Ground.data }, { on := 2, ground := Ground.data }, { on := 3, ground := Ground.data }], guard := none }) rfl (fun K hK => ?_) AllReadyH.nil
      go_simp
      have hbT := (hb3').later (below1 w3 (.cells #[.slice va n k, .slice ua un uk, .slice (some ⟨w2.heap.size, 0, none⟩) 1 1] 26))
      refine hK.out _ _ hbT (fun hHeld4 => ?_)
      clear hK K
      try simp only [Act.put, List.setIfInBounds_toArray, List.set_cons_zero, List.set_cons_succ]
      refine wpAnyH_ready (rs := [5]) (by kernel_rfl) (by simp) ?_
      refine AllReadyH.cons (o := { dst := some 22, op := Op.call { callee := Callee.value (Operand.func 53), args := #[Operand.tmp 21], argTypes := #[96] }, type := 26, pos := "bpdu.go:213", after := #[{ on := 4, ground := Ground.data }, { on := 2, ground := Ground.chain }], guard := none }) rfl (fun K hK => ?_) AllReadyH.nil
      go_simp
      have hJ := Join_three w3 w3.heap.size rfl hB2' hB3 hZ3 (by have := hl1.out; have := hl2.out; simp; omega)
      refine hJ.mono ?_
      rintro e wE ⟨la, ln, lc, rfl, hBE, hbE⟩
      have hbE' := (hb3').later hbE
      go_wp2_with fail
      refine hK.out _ _ ?_ (fun hHeld5 => ?_)
      · exact hbE'
      clear hK K
      try simp only [Act.put, List.setIfInBounds_toArray, List.set_cons_zero, List.set_cons_succ]
      refine wpAnyH_take (i := 6) (oi := { dst := some 2, op := Op.assign (Operand.tmp 22), type := 26, pos := "bpdu.go:213", after := #[{ on := 5, ground := Ground.data }, { on := 5, ground := Ground.chain }, { on := 0, ground := Ground.phase }, { on := 1, ground := Ground.phase }, { on := 2, ground := Ground.phase }, { on := 3, ground := Ground.phase }, { on := 4, ground := Ground.phase }, { on := 5, ground := Ground.phase }], guard := none }) (v := ?v3) rfl (by kernel_rfl) (by kernel_rfl) (by kernel_rfl) (fun _ _ _ h => h) (Or.inl ⟨by rfl, ?y3⟩) (by assumption) ?r3
      case y3 => (intro w hSw; (try dsimp only at hSw); (try (go_split_ands)); go_simp; try with_reducible rfl)
      try simp only [Act.put, List.setIfInBounds_toArray, List.set_cons_zero, List.set_cons_succ]
      refine wpAnyH_take (i := 7) (oi := { dst := some 3, op := Op.assign (Operand.const (Value.int IntKind.i64 0)), type := 29, pos := "bpdu.go:213", after := #[{ on := 6, ground := Ground.chain }, { on := 0, ground := Ground.phase }, { on := 1, ground := Ground.phase }, { on := 2, ground := Ground.phase }, { on := 3, ground := Ground.phase }, { on := 4, ground := Ground.phase }, { on := 5, ground := Ground.phase }, { on := 6, ground := Ground.phase }], guard := none }) (v := ?v4) rfl (by kernel_rfl) (by kernel_rfl) (by kernel_rfl) (fun _ _ _ h => h) (Or.inl ⟨by rfl, ?y4⟩) (by assumption) ?r4
      case y4 => (intro w hSw; (try dsimp only at hSw); (try (go_split_ands)); go_simp; try with_reducible rfl)
      try simp only [Act.put, List.setIfInBounds_toArray, List.set_cons_zero, List.set_cons_succ]
      refine wpAnyH_done (by kernel_rfl) ?_ _
      refine NoPanic.normal ?_
      go_wp2
      go_ret2
      exact ⟨_, _, _, rfl, hBE, hW1.out.later hbE'⟩
  · go_simp
    have hz : Below w1.heap.size w1 ((w1.alloc (.cells #[.int .u8 0] 5)).drew) := below_drewN (below1 _ _) 1
    refine hK.out _ _ hz (fun hHeld3 => ?_)
    clear hK K
    try simp only [Act.put, List.setIfInBounds_toArray, List.set_cons_zero, List.set_cons_succ]
    refine wpAnyH_ready (rs := [0]) (by kernel_rfl) (by simp) ?_
    refine AllReadyH.cons (o := { dst := some 17, op := Op.call { callee := Callee.value (Operand.func 52), args := #[Operand.const (Value.int IntKind.u64 2), Operand.const (Value.int IntKind.u64 2)], argTypes := #[37, 37] }, type := 26, pos := "bpdu.go:213", after := #[], guard := none }) rfl (fun K hK => ?_) AllReadyH.nil
    go_simp
    refine (hH.out _).mono ?_
    rintro e w2 ⟨va, n, k, rfl, hB2, hb2⟩
    have hb2' := hz.later hb2
    have hZ2 : Bs w2 (.slice (some ⟨w1.heap.size, 0, none⟩) 1 1) [0] := ((bs_zero w1).below (below_drewN (Below.refl _ _) 1)).below hb2
    go_wp2_with fail
    refine hK.out _ _ ?_ (fun hHeld0 => ?_)
    · exact hb2'
    clear hK K
    try simp only [Act.put, List.setIfInBounds_toArray, List.set_cons_zero, List.set_cons_succ]
    refine wpAnyH_ready (rs := [2]) (by kernel_rfl) (by simp) ?_
    refine AllReadyH.cons (o := { dst := some 19, op := Op.call { callee := Callee.value (Operand.func 54), args := #[Operand.tmp 18], argTypes := #[41] }, type := 26, pos := "bpdu.go:213", after := #[{ on := 1, ground := Ground.data }, { on := 0, ground := Ground.chain }], guard := none }) rfl (fun K hK => ?_) AllReadyH.nil
    go_simp
    refine (hO.out _).mono ?_
    rintro e w3 ⟨ua, un, uk, rfl, hB3, hb3⟩
    have hb3' := hb2'.later hb3
    have hB2' := hB2.below hb3
    have hZ3 := hZ2.below hb3
    go_wp2_with fail
    refine hK.out _ _ ?_ (fun hHeld2 => ?_)
    · exact hb3'
    clear hK K
    try simp only [Act.put, List.setIfInBounds_toArray, List.set_cons_zero, List.set_cons_succ]
    refine wpAnyH_ready (rs := [4]) (by kernel_rfl) (by simp) ?_
    refine AllReadyH.cons (o := { dst := some 21, op := Op.buildSlice 96 3 #[(0, Operand.tmp 17), (1, Operand.tmp 19), (2, Operand.tmp 20)], type := 96, pos := "bpdu.go:213", after := #[{ on := 0, ground := Ground.data }, { on := 2, ground := Ground.data }, { on := 3, ground := Ground.data }], guard := none }) rfl (fun K hK => ?_) AllReadyH.nil
    go_simp
    have hbT := (hb3').later (below1 w3 (.cells #[.slice va n k, .slice ua un uk, .slice (some ⟨w1.heap.size, 0, none⟩) 1 1] 26))
    refine hK.out _ _ hbT (fun hHeld4 => ?_)
    clear hK K
    try simp only [Act.put, List.setIfInBounds_toArray, List.set_cons_zero, List.set_cons_succ]
    refine wpAnyH_ready (rs := [5]) (by kernel_rfl) (by simp) ?_
    refine AllReadyH.cons (o := { dst := some 22, op := Op.call { callee := Callee.value (Operand.func 53), args := #[Operand.tmp 21], argTypes := #[96] }, type := 26, pos := "bpdu.go:213", after := #[{ on := 4, ground := Ground.data }, { on := 2, ground := Ground.chain }], guard := none }) rfl (fun K hK => ?_) AllReadyH.nil
    go_simp
    have hJ := Join_three w3 w3.heap.size rfl hB2' hB3 hZ3 (by have := hl1.out; have := hl2.out; simp; omega)
    refine hJ.mono ?_
    rintro e wE ⟨la, ln, lc, rfl, hBE, hbE⟩
    have hbE' := (hb3').later hbE
    go_wp2_with fail
    refine hK.out _ _ ?_ (fun hHeld5 => ?_)
    · exact hbE'
    clear hK K
    try simp only [Act.put, List.setIfInBounds_toArray, List.set_cons_zero, List.set_cons_succ]
    refine wpAnyH_take (i := 6) (oi := { dst := some 2, op := Op.assign (Operand.tmp 22), type := 26, pos := "bpdu.go:213", after := #[{ on := 5, ground := Ground.data }, { on := 5, ground := Ground.chain }, { on := 0, ground := Ground.phase }, { on := 1, ground := Ground.phase }, { on := 2, ground := Ground.phase }, { on := 3, ground := Ground.phase }, { on := 4, ground := Ground.phase }, { on := 5, ground := Ground.phase }], guard := none }) (v := ?v5) rfl (by kernel_rfl) (by kernel_rfl) (by kernel_rfl) (fun _ _ _ h => h) (Or.inl ⟨by rfl, ?y5⟩) (by assumption) ?r5
    case y5 => (intro w hSw; (try dsimp only at hSw); (try (go_split_ands)); go_simp; try with_reducible rfl)
    try simp only [Act.put, List.setIfInBounds_toArray, List.set_cons_zero, List.set_cons_succ]
    refine wpAnyH_take (i := 7) (oi := { dst := some 3, op := Op.assign (Operand.const (Value.int IntKind.i64 0)), type := 29, pos := "bpdu.go:213", after := #[{ on := 6, ground := Ground.chain }, { on := 0, ground := Ground.phase }, { on := 1, ground := Ground.phase }, { on := 2, ground := Ground.phase }, { on := 3, ground := Ground.phase }, { on := 4, ground := Ground.phase }, { on := 5, ground := Ground.phase }, { on := 6, ground := Ground.phase }], guard := none }) (v := ?v6) rfl (by kernel_rfl) (by kernel_rfl) (by kernel_rfl) (fun _ _ _ h => h) (Or.inl ⟨by rfl, ?y6⟩) (by assumption) ?r6
    case y6 => (intro w hSw; (try dsimp only at hSw); (try (go_split_ands)); go_simp; try with_reducible rfl)
    try simp only [Act.put, List.setIfInBounds_toArray, List.set_cons_zero, List.set_cons_succ]
    refine wpAnyH_done (by kernel_rfl) ?_ _
    refine NoPanic.normal ?_
    go_wp2
    go_ret2
    exact ⟨_, _, _, rfl, hBE, hW1.out.later hbE'⟩
/-- Build: a message's payload. -/
theorem BBuild_ok (b : Bp) (w : World) (hW : b.wf) (hE : bcheckE b = 0) :
    Calls Tryd.prog 16 #[.agg b.row] w fun e w' => ∃ va n k, e = .returned (.tuple #[.slice va n k, .int .i64 0]) ∧ Bs w' (.slice va n k) (bbuildL b) ∧ Below w.heap.size w w' := by
  unfold bbuildL
  by_cases h2 : b.kind = 2
  · rw [if_pos h2]; exact BBuild_notice b w hW hE h2
  · obtain ⟨hF, h01, _⟩ := bfits hW hE h2
    rw [if_neg h2]
    by_cases h1 : b.kind = 1
    · rw [if_pos h1]; exact BBuild_rapid b w hW hE h1 hF
    · rw [if_neg h1]; exact BBuild_config b w hW hE (by omega) hF
end Go.Proofs.YtmakaadmjgakaaaDoor
