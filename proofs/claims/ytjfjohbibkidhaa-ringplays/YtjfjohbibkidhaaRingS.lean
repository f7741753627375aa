/-
  Contract of RingPlays' 'same': a port's rows are just these. Conditions: those that each theorem names.
-/
import Derived.Test.YtjfjohbibkidhaaRingM
namespace Go.Proofs.Ytjfjohbibkidhaa
open Go.RowKit
set_option linter.unusedVariables false

theorem wtF_lt (f : Nat → List Int) : ∀ j, wtF f j < 2 ^ j
  | 0 => by simp [wtF]
  | j + 1 => by
    have := wtF_lt f j
    rw [wtF, Nat.pow_succ]
    split <;> omega
theorem allF_le (f : Nat → List Int) (h : ∀ k, k < 8 → (f k).length ≤ 10000) : ∀ j, j ≤ 8 → allF f j ≤ j * 10000
  | 0, _ => by simp [allF]
  | j + 1, hj => by
    have h1 := allF_le f h j (by omega)
    have h2 := h j (by omega)
    rw [allF]
    omega
theorem rowsSize8 (A : Array Value) (h : A.size = 8) : (Try.prog.info? 28).map (·.size) = some A.size := by rw [h]; kernel_rfl
set_option maxRecDepth 20000 in
set_option maxHeartbeats 4000000 in
theorem same_any {w : World} {B g : Nat} {rs : List Rw} {f : Nat → List Int} {b ls : Nat → Nat} (h : Pt w B g rs) (hv : Vw rs f b ls) (A Lr : Array Value) (V : Nat → Value) (hA : A.size = 8) (hL : Lr.size = 8)
    (hix : ∀ j, j < 8 → ∀ w, (Instr.index 28 (.agg A) (.int .i64 (j : Nat))).run Try.prog w = .ok (V j) w) (hq : ∀ j, j < 8 → Qe w (V j) (f j)) (hl : ∀ j, j < 8 → Lr[j]? = some (.int .i64 (ls j))) (hf : ∀ k, k < 8 → (f k).length ≤ 10000) (hls : ∀ k, k < 8 → ls k ≤ 100000) :
    Calls Try.prog 20 #[.pointer (some ⟨g, 0, none⟩), .agg A, .agg Lr] w fun e w' => e = .returned (.bool true) ∧ Below w.heap.size w w' := by
  have hA0 := heap_alloc_new w (.cells A 28)
  have hP0 : Below w.heap.size w ((w.alloc (.cells A 28)).alloc (.cells Lr 22)) := (below1 _ _).later (below1 _ _)
  have hAA : Hid (((w.alloc (.cells A 28)).alloc (.cells Lr 22)).heap[w.heap.size]? = some (.cells A 28 (0, 0))) := (heap_alloc_old _ _ (show w.heap.size < (w.alloc (.cells A 28)).heap.size by rw [World.size_alloc]; omega)).trans hA0
  have hLL : Hid (((w.alloc (.cells A 28)).alloc (.cells Lr 22)).heap[w.heap.size + 1]? = some (.cells Lr 22 (0, 0))) := by
    have h := heap_alloc_new (w.alloc (.cells A 28)) (.cells Lr 22)
    rw [World.size_alloc] at h
    exact h
  have hsA := rowsSize8 A hA
  have hPt : Hid (Pt ((w.alloc (.cells A 28)).alloc (.cells Lr 22)) B g rs) := h.below hP0
  have hQ : Hid (∀ j, j < 8 → Qe ((w.alloc (.cells A 28)).alloc (.cells Lr 22)) (V j) (f j)) := fun j hj => (hq j hj).below hP0
  have hW0 := hide hP0
  have hV := hide hv
  have hX := hide hix
  have hLst := hide hl
  have hF := hide hf
  have hS := hide hls
  clear h hv hix hq hl hf hls hA0 hP0
  go_enter Try.func20, Try.ntmps20
  go_wp2_with ((with_reducible change wpList _ _ _ _ _ _); refine wpList_load_row rfl 28 (.tmp 4) rfl w.heap.size rfl 28 _ _ _ hAA.out Try.underlying28 rfl hsA ?_)
  generalize (w.alloc (.cells A 28)).alloc (.cells Lr 22) = w2 at *
  go_loopw [7, 8, 14] (fun x y i wr => ∃ j : Nat, j ≤ 8 ∧ i = .int .i64 j ∧ x = .int .i64 (allF f j) ∧ y = .int .i64 (wtF f j) ∧ Hid (Below w2.heap.size w2 wr)) (fun _ _ i _ => 8 - (intOf i).toNat)
  case atStart => exact ⟨0, Nat.zero_le _, rfl, rfl, rfl, hide (Below.refl _ _)⟩
  case round =>
    obtain ⟨j, hj, rfl, rfl, rfl, hB⟩ := hrel
    have hPr := hide (hPt.out.below hB.out)
    by_cases hlt : j < 8
    · have hVj := hV.out j hlt
      have hqj := (hQ.out j hlt).below hB.out
      obtain ⟨ra, rc, hsh⟩ := hqj.shape
      have hxj := hX.out j hlt
      rw [hsh] at hqj hxj
      replace hqj := hide hqj
      have hLi := List_any hPr.out j hlt (by rw [hVj.1]; have := hF.out j hlt; omega)
      rw [hVj.1] at hLi
      replace hLi := hide hLi
      have hLc : Hid (wr.cell? ⟨w.heap.size + 1, j, none⟩ = some (.int .i64 (ls j))) := by
        show _ = _
        rw [cell_of_row _ _ _ _ _ _ (heap_kept hB.out hLL.out)]
        exact hLst.out j hlt
      have hll : w.heap.size + 1 < wr.heap.size := block_lt_of_cell hLc.out
      have hlsj := hS.out j hlt
      have hfj := hF.out j hlt
      have hA1 : Hid (allF f (j + 1) = allF f j + (f j).length) := rfl
      have hW1 : Hid (wtF f (j + 1) = wtF f j + if f j = [] then 0 else 2 ^ j) := rfl
      have hAle := allF_le f hF.out j (by omega)
      have hWlt := wtF_lt f j
      generalize hAX : allF f (j + 1) = X1 at *
      generalize hWX : wtF f (j + 1) = Y1 at *
      replace hAX := hide hAX
      replace hWX := hide hWX
      generalize allF f j = X at *
      generalize wtF f j = Y at *
      clear hsh
      have hfe : Hid ((f j).length = 0 ↔ f j = []) := List.length_eq_zero_iff
      generalize hn : (f j).length = n at *
      replace hn := hide hn
      generalize hF1 : f j = fj at *
      replace hF1 := hide hF1
      have hLn := fun (W : World) (hW : Below wr.heap.size wr W) => Len_any (hPr.out.below hW) j hlt
      rw [hVj.1, hn.out] at hLn
      replace hLn := hide hLn
      have hLo := fun (W : World) (hW : Below wr.heap.size wr W) => Lost_any (hPr.out.below hW) j hlt
      rw [hVj.2.2] at hLo
      replace hLo := hide hLo
      replace hVj := hide hVj
      generalize ls j = q at *
      go_wp2_with fail
      refine hLi.out.mono ?_
      rintro e w3 ⟨v, rfl, hq3, hb3⟩
      obtain ⟨la, lc, rfl⟩ := hq3.shape
      rw [hn.out] at hq3
      replace hq3 := hide hq3
      rw [hn.out]
      clear hLi
      replace hb3 := hide hb3
      have hS3 : Hid (∀ W : World, Below w3.heap.size w3 W → W.cell? ⟨w.heap.size + 1, j, none⟩ = some (.int .i64 q)) := fun W hW => ((hb3.out.later hW).cell (p := ⟨w.heap.size + 1, j, none⟩) hll).trans hLc.out
      go_wp2_with fail
      refine wp_region_noPanic ?_
      refine wp_region_held_drew (S := fun W => W.cell? ⟨w.heap.size + 1, j, none⟩ = some (.int .i64 q)) (by kernel_rfl) (hS3.out _ (below_drewN (Below.refl _ _) 1)) (fun hHeld => ?_)
      refine wpAnyH_take (i := 0) (oi := { dst := some 21, op := Op.move (Operand.tmp 11), type := 27, pos := "law.go:107", after := #[], guard := none }) (v := ?v1) rfl (by kernel_rfl) (by kernel_rfl) (by kernel_rfl) (fun _ _ _ h => h) (Or.inl ⟨by rfl, ?y1⟩) (by assumption) ?r1
      case y1 => (intro w hSw; (try dsimp only at hSw); (try (go_split_ands)); go_simp; try with_reducible rfl)
      try simp only [Act.put, List.setIfInBounds_toArray, List.set_cons_zero, List.set_cons_succ]
      refine wpAnyH_take (i := 1) (oi := { dst := some 22, op := Op.call { callee := Callee.builtin Builtin.len, args := #[Operand.tmp 21], argTypes := #[27] }, type := 3, pos := "law.go:107", after := #[{ on := 0, ground := Ground.data }], guard := none }) (v := ?v2) rfl (by kernel_rfl) (by kernel_rfl) (by kernel_rfl) (fun _ _ _ h => h) (Or.inl ⟨by rfl, ?y2⟩) (by assumption) ?r2
      case y2 => (intro w hSw; (try dsimp only at hSw); (try (go_split_ands)); go_simp; try with_reducible rfl)
      try simp only [Act.put, List.setIfInBounds_toArray, List.set_cons_zero, List.set_cons_succ]
      refine wpAnyH_take (i := 2) (oi := { dst := some 23, op := Op.move (Operand.tmp 10), type := 27, pos := "law.go:107", after := #[], guard := none }) (v := ?v3) rfl (by kernel_rfl) (by kernel_rfl) (by kernel_rfl) (fun _ _ _ h => h) (Or.inl ⟨by rfl, ?y3⟩) (by assumption) ?r3
      case y3 => (intro w hSw; (try dsimp only at hSw); (try (go_split_ands)); go_simp; try with_reducible rfl)
      try simp only [Act.put, List.setIfInBounds_toArray, List.set_cons_zero, List.set_cons_succ]
      refine wpAnyH_take (i := 3) (oi := { dst := some 24, op := Op.call { callee := Callee.builtin Builtin.len, args := #[Operand.tmp 23], argTypes := #[27] }, type := 3, pos := "law.go:107", after := #[{ on := 2, ground := Ground.data }], guard := none }) (v := ?v4) rfl (by kernel_rfl) (by kernel_rfl) (by kernel_rfl) (fun _ _ _ h => h) (Or.inl ⟨by rfl, ?y4⟩) (by assumption) ?r4
      case y4 => (intro w hSw; (try dsimp only at hSw); (try (go_split_ands)); go_simp; try with_reducible rfl)
      try simp only [Act.put, List.setIfInBounds_toArray, List.set_cons_zero, List.set_cons_succ]
      refine wpAnyH_take (i := 4) (oi := { dst := some 25, op := Op.binOp BinOp.neq 3 (Operand.tmp 22) (Operand.tmp 24) 3, type := 4, pos := "law.go:107", after := #[{ on := 1, ground := Ground.data }, { on := 3, ground := Ground.data }], guard := none }) (v := ?v5) rfl (by kernel_rfl) (by kernel_rfl) (by kernel_rfl) (fun _ _ _ h => h) (Or.inl ⟨by rfl, ?y5⟩) (by assumption) ?r5
      case y5 => (intro w hSw; (try dsimp only at hSw); (try (go_split_ands)); go_simp; try with_reducible rfl)
      try simp only [Act.put, List.setIfInBounds_toArray, List.set_cons_zero, List.set_cons_succ]
      refine wpAnyH_take (i := 5) (oi := { dst := some 26, op := Op.move (Operand.tmp 25), type := 4, pos := "law.go:107", after := #[{ on := 4, ground := Ground.data }], guard := none }) (v := ?v6) rfl (by kernel_rfl) (by kernel_rfl) (by kernel_rfl) (fun _ _ _ h => h) (Or.inl ⟨by rfl, ?y6⟩) (by assumption) ?r6
      case y6 => (intro w hSw; (try dsimp only at hSw); (try (go_split_ands)); go_simp; try with_reducible rfl)
      try simp only [Act.put, List.setIfInBounds_toArray, List.set_cons_zero, List.set_cons_succ]
      refine wpAnyH_take (i := 6) (oi := { dst := some 27, op := Op.move (Operand.tmp 0), type := 25, pos := "law.go:107", after := #[{ on := 5, ground := Ground.guard }], guard := some (5, false) }) (v := ?v7) rfl (by kernel_rfl) (by kernel_rfl) (by kernel_rfl) (fun _ _ _ h => h) (Or.inl ⟨by rfl, ?y7⟩) (by assumption) ?r7
      case y7 => (intro w hSw; (try dsimp only at hSw); (try (go_split_ands)); go_simp; try with_reducible rfl)
      try simp only [Act.put, List.setIfInBounds_toArray, List.set_cons_zero, List.set_cons_succ]
      refine wpAnyH_take (i := 7) (oi := { dst := some 28, op := Op.move (Operand.tmp 9), type := 3, pos := "law.go:107", after := #[{ on := 5, ground := Ground.guard }], guard := some (5, false) }) (v := ?v8) rfl (by kernel_rfl) (by kernel_rfl) (by kernel_rfl) (fun _ _ _ h => h) (Or.inl ⟨by rfl, ?y8⟩) (by assumption) ?r8
      case y8 => (intro w hSw; (try dsimp only at hSw); (try (go_split_ands)); go_simp; try with_reducible rfl)
      try simp only [Act.put, List.setIfInBounds_toArray, List.set_cons_zero, List.set_cons_succ]
      refine wpAnyH_take (i := 9) (oi := { dst := some 30, op := Op.move (Operand.tmp 10), type := 27, pos := "law.go:107", after := #[{ on := 5, ground := Ground.guard }], guard := some (5, false) }) (v := ?v9) rfl (by kernel_rfl) (by kernel_rfl) (by kernel_rfl) (fun _ _ _ h => h) (Or.inl ⟨by rfl, ?y9⟩) (by assumption) ?r9
      case y9 => (intro w hSw; (try dsimp only at hSw); (try (go_split_ands)); go_simp; try with_reducible rfl)
      try simp only [Act.put, List.setIfInBounds_toArray, List.set_cons_zero, List.set_cons_succ]
      refine wpAnyH_take (i := 10) (oi := { dst := some 31, op := Op.call { callee := Callee.builtin Builtin.len, args := #[Operand.tmp 30], argTypes := #[27] }, type := 3, pos := "law.go:107", after := #[{ on := 9, ground := Ground.data }, { on := 5, ground := Ground.guard }], guard := some (5, false) }) (v := ?v10) rfl (by kernel_rfl) (by kernel_rfl) (by kernel_rfl) (fun _ _ _ h => h) (Or.inl ⟨by rfl, ?y10⟩) (by assumption) ?r10
      case y10 => (intro w hSw; (try dsimp only at hSw); (try (go_split_ands)); go_simp; try with_reducible rfl)
      try simp only [Act.put, List.setIfInBounds_toArray, List.set_cons_zero, List.set_cons_succ]
      refine wpAnyH_ready (rs := [8]) (by kernel_rfl) (by simp) ?_
      refine AllReadyH.cons (o := { dst := some 29, op := Op.call { callee := Callee.value (Operand.func 21), args := #[Operand.tmp 27, Operand.tmp 28], argTypes := #[25, 3] }, type := 3, pos := "law.go:107", after := #[{ on := 6, ground := Ground.data }, { on := 7, ground := Ground.data }, { on := 5, ground := Ground.chain }, { on := 5, ground := Ground.guard }], guard := some (5, false) }) rfl (fun K hK => ?_) AllReadyH.nil
      go_simp
      refine (hLn.out _ (hb3.out.later (below_drewN (Below.refl _ _) 1))).mono ?_
      rintro e w4 ⟨rfl, rfl⟩
      go_wp2_with fail
      refine hK.out _ _ ?_ (fun hHeld8 => ?_)
      · exact hS3.out _ (below_drewN (Below.refl _ _) 1)
      clear hK K
      try simp only [Act.put, List.setIfInBounds_toArray, List.set_cons_zero, List.set_cons_succ]
      refine wpAnyH_take (i := 11) (oi := { dst := some 32, op := Op.binOp BinOp.neq 3 (Operand.tmp 29) (Operand.tmp 31) 3, type := 4, pos := "law.go:107", after := #[{ on := 8, ground := Ground.data }, { on := 10, ground := Ground.data }, { on := 5, ground := Ground.guard }], guard := some (5, false) }) (v := ?v11) rfl (by kernel_rfl) (by kernel_rfl) (by kernel_rfl) (fun _ _ _ h => h) (Or.inl ⟨by rfl, ?y11⟩) (by assumption) ?r11
      case y11 => (intro w hSw; (try dsimp only at hSw); (try (go_split_ands)); go_simp; try with_reducible rfl)
      try simp only [Act.put, List.setIfInBounds_toArray, List.set_cons_zero, List.set_cons_succ]
      refine wpAnyH_take (i := 12) (oi := { dst := some 33, op := Op.pick (Operand.tmp 26) (Operand.const (Value.bool true)) (Operand.tmp 32), type := 4, pos := "law.go:107", after := #[{ on := 5, ground := Ground.data }, { on := 11, ground := Ground.data }], guard := none }) (v := ?v12) rfl (by kernel_rfl) (by kernel_rfl) (by kernel_rfl) (fun _ _ _ h => h) (Or.inl ⟨by rfl, ?y12⟩) (by assumption) ?r12
      case y12 => (intro w hSw; (try dsimp only at hSw); (try (go_split_ands)); go_simp; try with_reducible rfl)
      try simp only [Act.put, List.setIfInBounds_toArray, List.set_cons_zero, List.set_cons_succ]
      refine wpAnyH_take (i := 13) (oi := { dst := some 34, op := Op.move (Operand.tmp 33), type := 4, pos := "law.go:107", after := #[{ on := 12, ground := Ground.data }, { on := 8, ground := Ground.chain }], guard := none }) (v := ?v13) rfl (by kernel_rfl) (by kernel_rfl) (by kernel_rfl) (fun _ _ _ h => h) (Or.inl ⟨by rfl, ?y13⟩) (by assumption) ?r13
      case y13 => (intro w hSw; (try dsimp only at hSw); (try (go_split_ands)); go_simp; try with_reducible rfl)
      try simp only [Act.put, List.setIfInBounds_toArray, List.set_cons_zero, List.set_cons_succ]
      refine wpAnyH_take (i := 14) (oi := { dst := some 35, op := Op.move (Operand.tmp 0), type := 25, pos := "law.go:107", after := #[{ on := 13, ground := Ground.guard }], guard := some (13, false) }) (v := ?v14) rfl (by kernel_rfl) (by kernel_rfl) (by kernel_rfl) (fun _ _ _ h => h) (Or.inl ⟨by rfl, ?y14⟩) (by assumption) ?r14
      case y14 => (intro w hSw; (try dsimp only at hSw); (try (go_split_ands)); go_simp; try with_reducible rfl)
      try simp only [Act.put, List.setIfInBounds_toArray, List.set_cons_zero, List.set_cons_succ]
      refine wpAnyH_take (i := 15) (oi := { dst := some 36, op := Op.move (Operand.tmp 9), type := 3, pos := "law.go:107", after := #[{ on := 13, ground := Ground.guard }], guard := some (13, false) }) (v := ?v15) rfl (by kernel_rfl) (by kernel_rfl) (by kernel_rfl) (fun _ _ _ h => h) (Or.inl ⟨by rfl, ?y15⟩) (by assumption) ?r15
      case y15 => (intro w hSw; (try dsimp only at hSw); (try (go_split_ands)); go_simp; try with_reducible rfl)
      try simp only [Act.put, List.setIfInBounds_toArray, List.set_cons_zero, List.set_cons_succ]
      refine wpAnyH_take (i := 17) (oi := { dst := some 38, op := Op.move (Operand.tmp 9), type := 3, pos := "law.go:107", after := #[{ on := 13, ground := Ground.guard }], guard := some (13, false) }) (v := ?v16) rfl (by kernel_rfl) (by kernel_rfl) (by kernel_rfl) (fun _ _ _ h => h) (Or.inl ⟨by rfl, ?y16⟩) (by assumption) ?r16
      case y16 => (intro w hSw; (try dsimp only at hSw); (try (go_split_ands)); go_simp; try with_reducible rfl)
      try simp only [Act.put, List.setIfInBounds_toArray, List.set_cons_zero, List.set_cons_succ]
      refine wpAnyH_take (i := 18) (oi := { dst := some 39, op := Op.indexAddr 22 (Operand.tmp 5) (Operand.tmp 38), type := 0, pos := "law.go:107", after := #[{ on := 17, ground := Ground.data }, { on := 13, ground := Ground.guard }], guard := some (13, false) }) (v := ?v17) rfl (by kernel_rfl) (by kernel_rfl) (by kernel_rfl) (fun _ _ _ h => h) (Or.inl ⟨by rfl, ?y17⟩) (by assumption) ?r17
      case y17 => (intro w hSw; (try dsimp only at hSw); (try (go_split_ands)); go_simp; try with_reducible rfl)
      try simp only [Act.put, List.setIfInBounds_toArray, List.set_cons_zero, List.set_cons_succ]
      refine wpAnyH_take (i := 19) (oi := { dst := some 40, op := Op.load 3 (Operand.tmp 39), type := 3, pos := "law.go:107", after := #[{ on := 18, ground := Ground.data }, { on := 13, ground := Ground.guard }], guard := some (13, false) }) (v := ?v18) rfl (by kernel_rfl) (by kernel_rfl) (by kernel_rfl) (fun _ _ _ h => h) (Or.inl ⟨by rfl, ?y18⟩) (by assumption) ?r18
      case y18 => (intro w hSw; (try dsimp only at hSw); (try (go_split_ands)); go_simp; try with_reducible rfl)
      try simp only [Act.put, List.setIfInBounds_toArray, List.set_cons_zero, List.set_cons_succ]
      refine wpAnyH_ready (rs := [16]) (by kernel_rfl) (by simp) ?_
      refine AllReadyH.cons (o := { dst := some 37, op := Op.call { callee := Callee.value (Operand.func 22), args := #[Operand.tmp 35, Operand.tmp 36], argTypes := #[25, 3] }, type := 3, pos := "law.go:107", after := #[{ on := 14, ground := Ground.data }, { on := 15, ground := Ground.data }, { on := 13, ground := Ground.chain }, { on := 13, ground := Ground.guard }], guard := some (13, false) }) rfl (fun K hK => ?_) AllReadyH.nil
      go_simp
      refine (hLo.out _ (hb3.out.later (below_drewN (Below.refl _ _) 1))).mono ?_
      rintro e w4 ⟨rfl, rfl⟩
      go_wp2_with fail
      refine hK.out _ _ ?_ (fun hHeld16 => ?_)
      · exact hS3.out _ (below_drewN (Below.refl _ _) 1)
      clear hK K
      try simp only [Act.put, List.setIfInBounds_toArray, List.set_cons_zero, List.set_cons_succ]
      refine wpAnyH_take (i := 20) (oi := { dst := some 41, op := Op.binOp BinOp.neq 3 (Operand.tmp 37) (Operand.tmp 40) 3, type := 4, pos := "law.go:107", after := #[{ on := 16, ground := Ground.data }, { on := 19, ground := Ground.data }, { on := 13, ground := Ground.guard }], guard := some (13, false) }) (v := ?v19) rfl (by kernel_rfl) (by kernel_rfl) (by kernel_rfl) (fun _ _ _ h => h) (Or.inl ⟨by rfl, ?y19⟩) (by assumption) ?r19
      case y19 => (intro w hSw; (try dsimp only at hSw); (try (go_split_ands)); go_simp; try with_reducible rfl)
      try simp only [Act.put, List.setIfInBounds_toArray, List.set_cons_zero, List.set_cons_succ]
      refine wpAnyH_take (i := 21) (oi := { dst := some 42, op := Op.pick (Operand.tmp 34) (Operand.const (Value.bool true)) (Operand.tmp 41), type := 4, pos := "law.go:107", after := #[{ on := 13, ground := Ground.data }, { on := 20, ground := Ground.data }], guard := none }) (v := ?v20) rfl (by kernel_rfl) (by kernel_rfl) (by kernel_rfl) (fun _ _ _ h => h) (Or.inl ⟨by rfl, ?y20⟩) (by assumption) ?r20
      case y20 => (intro w hSw; (try dsimp only at hSw); (try (go_split_ands)); go_simp; try with_reducible rfl)
      try simp only [Act.put, List.setIfInBounds_toArray, List.set_cons_zero, List.set_cons_succ]
      refine wpAnyH_done (by kernel_rfl) ?_ _
      refine NoPanic.normal ?_
      clear hHeld hHeld8 hHeld16 hLn hLo
      have hb4 : Hid (Below w2.heap.size w2 w3) := hB.out.later hb3.out
      go_wp2
      go_loopw [45] (fun i wi => ∃ t : Nat, t ≤ n ∧ i = .int .i64 t ∧ Hid (Below w3.heap.size w3 wi)) (fun i _ => n - (intOf i).toNat)
      case atStart => exact ⟨0, Nat.zero_le _, rfl, hide (below_drewN (Below.refl _ _) 1)⟩
      case round =>
        obtain ⟨t, ht, rfl, hBi⟩ := hrel
        by_cases htl : t < n
        · obtain ⟨-, lb, lo, rfl, c1⟩ := hq3.out.cellsAt t htl
          obtain ⟨-, rb, ro, rfl, c2⟩ := hqj.out.cellsAt t htl
          have l1 := block_lt_of_cell c1
          have l2 := block_lt_of_cell c2
          have c1' : Hid (∀ W : World, Below w3.heap.size w3 W → W.cell? ⟨lb, lo + t, none⟩ = some (.int .i64 (fj.getD t 0)) ∧ W.cell? ⟨rb, ro + t, none⟩ = some (.int .i64 (fj.getD t 0))) := fun W hW =>
            ⟨(hW.cell (p := ⟨lb, lo + t, none⟩) l1).trans c1, ((hb3.out.later hW).cell (p := ⟨rb, ro + t, none⟩) l2).trans c2⟩
          clear c1 c2
          generalize fj.getD t 0 = z at *
          go_wp2_with fail
          refine wp_region_noPanic ?_
          refine wp_region_held_drew (S := fun W => W.cell? ⟨lb, lo + t, none⟩ = some (.int .i64 z) ∧ W.cell? ⟨rb, ro + t, none⟩ = some (.int .i64 z)) (by kernel_rfl) (c1'.out _ (hBi.out.later (below_drewN (Below.refl _ _) 1))) (fun hHeld => ?_)
          refine wpAnyH_take (i := 0) (oi := { dst := some 48, op := Op.move (Operand.tmp 11), type := 27, pos := "law.go:111", after := #[], guard := none }) (v := ?v21) rfl (by kernel_rfl) (by kernel_rfl) (by kernel_rfl) (fun _ _ _ h => h) (Or.inl ⟨by rfl, ?y21⟩) (by assumption) ?r21
          case y21 => (intro w hSw; (try dsimp only at hSw); (try (go_split_ands)); go_simp; try with_reducible rfl)
          try simp only [Act.put, List.setIfInBounds_toArray, List.set_cons_zero, List.set_cons_succ]
          refine wpAnyH_take (i := 1) (oi := { dst := some 49, op := Op.move (Operand.tmp 12), type := 3, pos := "law.go:111", after := #[], guard := none }) (v := ?v22) rfl (by kernel_rfl) (by kernel_rfl) (by kernel_rfl) (fun _ _ _ h => h) (Or.inl ⟨by rfl, ?y22⟩) (by assumption) ?r22
          case y22 => (intro w hSw; (try dsimp only at hSw); (try (go_split_ands)); go_simp; try with_reducible rfl)
          try simp only [Act.put, List.setIfInBounds_toArray, List.set_cons_zero, List.set_cons_succ]
          refine wpAnyH_take (i := 2) (oi := { dst := some 50, op := Op.indexAddr 27 (Operand.tmp 48) (Operand.tmp 49), type := 0, pos := "law.go:111", after := #[{ on := 0, ground := Ground.data }, { on := 1, ground := Ground.data }], guard := none }) (v := ?v23) rfl (by kernel_rfl) (by kernel_rfl) (by kernel_rfl) (fun _ _ _ h => h) (Or.inl ⟨by rfl, ?y23⟩) (by assumption) ?r23
          case y23 => (intro w hSw; (try dsimp only at hSw); (try (go_split_ands)); go_simp; try with_reducible rfl)
          try simp only [Act.put, List.setIfInBounds_toArray, List.set_cons_zero, List.set_cons_succ]
          refine wpAnyH_take (i := 3) (oi := { dst := some 51, op := Op.load 3 (Operand.tmp 50), type := 3, pos := "law.go:111", after := #[{ on := 2, ground := Ground.data }], guard := none }) (v := ?v24) rfl (by kernel_rfl) (by kernel_rfl) (by kernel_rfl) (fun _ _ _ h => h) (Or.inl ⟨by rfl, ?y24⟩) (by assumption) ?r24
          case y24 => (intro w hSw; (try dsimp only at hSw); (try (go_split_ands)); go_simp; try with_reducible rfl)
          try simp only [Act.put, List.setIfInBounds_toArray, List.set_cons_zero, List.set_cons_succ]
          refine wpAnyH_take (i := 4) (oi := { dst := some 52, op := Op.move (Operand.tmp 10), type := 27, pos := "law.go:111", after := #[], guard := none }) (v := ?v25) rfl (by kernel_rfl) (by kernel_rfl) (by kernel_rfl) (fun _ _ _ h => h) (Or.inl ⟨by rfl, ?y25⟩) (by assumption) ?r25
          case y25 => (intro w hSw; (try dsimp only at hSw); (try (go_split_ands)); go_simp; try with_reducible rfl)
          try simp only [Act.put, List.setIfInBounds_toArray, List.set_cons_zero, List.set_cons_succ]
          refine wpAnyH_take (i := 5) (oi := { dst := some 53, op := Op.move (Operand.tmp 12), type := 3, pos := "law.go:111", after := #[], guard := none }) (v := ?v26) rfl (by kernel_rfl) (by kernel_rfl) (by kernel_rfl) (fun _ _ _ h => h) (Or.inl ⟨by rfl, ?y26⟩) (by assumption) ?r26
          case y26 => (intro w hSw; (try dsimp only at hSw); (try (go_split_ands)); go_simp; try with_reducible rfl)
          try simp only [Act.put, List.setIfInBounds_toArray, List.set_cons_zero, List.set_cons_succ]
          refine wpAnyH_take (i := 6) (oi := { dst := some 54, op := Op.indexAddr 27 (Operand.tmp 52) (Operand.tmp 53), type := 0, pos := "law.go:111", after := #[{ on := 4, ground := Ground.data }, { on := 5, ground := Ground.data }], guard := none }) (v := ?v27) rfl (by kernel_rfl) (by kernel_rfl) (by kernel_rfl) (fun _ _ _ h => h) (Or.inl ⟨by rfl, ?y27⟩) (by assumption) ?r27
          case y27 => (intro w hSw; (try dsimp only at hSw); (try (go_split_ands)); go_simp; try with_reducible rfl)
          try simp only [Act.put, List.setIfInBounds_toArray, List.set_cons_zero, List.set_cons_succ]
          refine wpAnyH_take (i := 7) (oi := { dst := some 55, op := Op.load 3 (Operand.tmp 54), type := 3, pos := "law.go:111", after := #[{ on := 6, ground := Ground.data }], guard := none }) (v := ?v28) rfl (by kernel_rfl) (by kernel_rfl) (by kernel_rfl) (fun _ _ _ h => h) (Or.inl ⟨by rfl, ?y28⟩) (by assumption) ?r28
          case y28 => (intro w hSw; (try dsimp only at hSw); (try (go_split_ands)); go_simp; try with_reducible rfl)
          try simp only [Act.put, List.setIfInBounds_toArray, List.set_cons_zero, List.set_cons_succ]
          refine wpAnyH_take (i := 8) (oi := { dst := some 56, op := Op.binOp BinOp.neq 3 (Operand.tmp 51) (Operand.tmp 55) 3, type := 4, pos := "law.go:111", after := #[{ on := 3, ground := Ground.data }, { on := 7, ground := Ground.data }], guard := none }) (v := ?v29) rfl (by kernel_rfl) (by kernel_rfl) (by kernel_rfl) (fun _ _ _ h => h) (Or.inl ⟨by rfl, ?y29⟩) (by assumption) ?r29
          case y29 => (intro w hSw; (try dsimp only at hSw); (try (go_split_ands)); go_simp; try with_reducible rfl)
          try simp only [Act.put, List.setIfInBounds_toArray, List.set_cons_zero, List.set_cons_succ]
          refine wpAnyH_done (by kernel_rfl) ?_ _
          refine NoPanic.normal ?_
          have hBi2 := hide (hBi.out.later (below_drewN (Below.refl _ _) 1))
          go_wp2
          go_round
          case rel => exact ⟨t + 1, by omega, by go_num, hBi2⟩
          case measure => simp [intOf]; omega
        · obtain rfl : t = n := by omega
          have hBf := hide (hb4.out.later hBi.out)
          clear hq3 hqj hS3 hb3 hLc hBi hb4 hQ hPr
          by_cases h0 : t = 0
          · have hY : Hid (Y1 = Y) := by
              have := hW1.out
              rw [if_pos (hfe.out.1 h0), Nat.add_zero] at this
              exact this
            subst h0
            go_wp2
            go_round
            case rel => exact ⟨j + 1, by omega, by go_num, by rw [hAX.out, hA1.out]; go_num, by rw [hWX.out, hY.out], hBf⟩
            case measure => simp [intOf]; omega
          · have hY : Y1 = Y + 2 ^ j := by
              have := hW1.out
              rw [if_neg (fun e => h0 (hfe.out.2 e))] at this
              exact this
            clear hW1 hfe
            have h0' : decide (0 < (t : Int)) = true := decide_eq_true (by omega)
            rcases (show j = 0 ∨ j = 1 ∨ j = 2 ∨ j = 3 ∨ j = 4 ∨ j = 5 ∨ j = 6 ∨ j = 7 by omega) with rfl | rfl | rfl | rfl | rfl | rfl | rfl | rfl
            · have e2 : (2 : Nat) ^ 0 = 1 := by decide
              rw [e2] at hY hWlt
              clear e2
              obtain rfl : Y = 0 := by omega
              obtain rfl : X = 0 := by omega
              clear hWlt hAle
              replace hY := hide hY
              go_wp2
              go_round
              case rel => exact ⟨1, by omega, by go_num, by rw [hAX.out, hA1.out]; go_num, by rw [hWX.out, hY.out]; go_num, hBf⟩
              case measure => simp [intOf]
            · have e2 : (2 : Nat) ^ 1 = 2 := by decide
              rw [e2] at hY hWlt
              clear e2
              replace hY := hide hY
              go_wp2
              go_round
              case rel => exact ⟨2, by omega, by go_num, by rw [hAX.out, hA1.out]; go_num, by rw [hWX.out, hY.out]; go_num, hBf⟩
              case measure => simp [intOf]
            · have e2 : (2 : Nat) ^ 2 = 4 := by decide
              rw [e2] at hY hWlt
              clear e2
              replace hY := hide hY
              go_wp2
              go_round
              case rel => exact ⟨3, by omega, by go_num, by rw [hAX.out, hA1.out]; go_num, by rw [hWX.out, hY.out]; go_num, hBf⟩
              case measure => simp [intOf]
            · have e2 : (2 : Nat) ^ 3 = 8 := by decide
              rw [e2] at hY hWlt
              clear e2
              replace hY := hide hY
              go_wp2
              go_round
              case rel => exact ⟨4, by omega, by go_num, by rw [hAX.out, hA1.out]; go_num, by rw [hWX.out, hY.out]; go_num, hBf⟩
              case measure => simp [intOf]
            · have e2 : (2 : Nat) ^ 4 = 16 := by decide
              rw [e2] at hY hWlt
              clear e2
              replace hY := hide hY
              go_wp2
              go_round
              case rel => exact ⟨5, by omega, by go_num, by rw [hAX.out, hA1.out]; go_num, by rw [hWX.out, hY.out]; go_num, hBf⟩
              case measure => simp [intOf]
            · have e2 : (2 : Nat) ^ 5 = 32 := by decide
              rw [e2] at hY hWlt
              clear e2
              replace hY := hide hY
              go_wp2
              go_round
              case rel => exact ⟨6, by omega, by go_num, by rw [hAX.out, hA1.out]; go_num, by rw [hWX.out, hY.out]; go_num, hBf⟩
              case measure => simp [intOf]
            · have e2 : (2 : Nat) ^ 6 = 64 := by decide
              rw [e2] at hY hWlt
              clear e2
              replace hY := hide hY
              go_wp2
              go_round
              case rel => exact ⟨7, by omega, by go_num, by rw [hAX.out, hA1.out]; go_num, by rw [hWX.out, hY.out]; go_num, hBf⟩
              case measure => simp [intOf]
            · have e2 : (2 : Nat) ^ 7 = 128 := by decide
              rw [e2] at hY hWlt
              clear e2
              replace hY := hide hY
              go_wp2
              go_round
              case rel => exact ⟨8, by omega, by go_num, by rw [hAX.out, hA1.out]; go_num, by rw [hWX.out, hY.out]; go_num, hBf⟩
              case measure => simp [intOf]
    · obtain rfl : j = 8 := by omega
      have hAl := All_any hPr.out (fun k hk => by rw [(hV.out k hk).1]; have := hF.out k hk; omega)
      have hWa := Waits_any hPr.out
      rw [(hV.out.all 8 (Nat.le_refl _)).1] at hAl
      rw [(hV.out.all 8 (Nat.le_refl _)).2.1] at hWa
      replace hAl := hide hAl
      replace hWa := hide hWa
      have hfin := hide (hW0.out.later hB.out)
      clear hPr hQ hPt hX hLst hF hS hB
      generalize allF f 8 = X at *
      generalize wtF f 8 = Y at *
      go_wp2_with fail
      refine hAl.out.mono ?_
      rintro e w4 ⟨rfl, rfl⟩
      go_wp2_with fail
      refine hWa.out.mono ?_
      rintro e w4 ⟨rfl, rfl⟩
      go_wp2
      go_ret
      exact ⟨rfl, hfin.out⟩
end Go.Proofs.Ytjfjohbibkidhaa
