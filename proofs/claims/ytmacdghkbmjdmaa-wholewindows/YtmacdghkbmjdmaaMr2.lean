/-
  A meter in memory ('MAt'); contracts of pass, take, Mark, Level, Counts. Conditions: those that each theorem names.
-/
import Derived.Test.YtmacdghkbmjdmaaMr1
namespace Go.Proofs.Ytmacdghkbmjdmaa
open Go.RowKit
set_option linter.unusedVariables false
set_option maxRecDepth 20000

/-- A meter in numbers. -/
structure Mm where
  (r0 f0 l0 r1 f1 l1 now c0 c1 c2 : Int)
  deriving DecidableEq
@[reducible] def mRow (M : Mm) : List Value := [.int .i64 M.r0, .int .i64 M.f0, .int .i64 M.l0, .int .i64 M.r1, .int .i64 M.f1, .int .i64 M.l1, .int .i64 M.now, .int .i64 M.c0, .int .i64 M.c1, .int .i64 M.c2]
def MAt (w : World) (t : Nat) (M : Mm) : Prop := w.heap[t]? = some (.cells (mRow M).toArray 64 (0, 0))
theorem MAt.lt {w : World} {t : Nat} {M : Mm} (h : MAt w t M) : t < w.heap.size := (Array.getElem?_eq_some_iff.1 h).1
theorem MAt.cell {w : World} {t : Nat} {M : Mm} (h : MAt w t M) (o : Nat) : w.cell? ⟨t, o, none⟩ = (mRow M)[o]? := by
  rw [cell_of_row _ _ _ _ _ _ h]; simp
theorem MAt.fz {w : World} {t : Nat} {M : Mm} (h : MAt w t M) (o : Nat) : w.frozen? ⟨t, o, none⟩ = false := by
  have h' : w.heap[t]? = some (.cells (mRow M).toArray 64 (0, 0)) := h
  simp [World.frozen?, h']
theorem MAt.put {w : World} {t : Nat} {M M' : Mm} (h : MAt w t M) (o : Nat) (v : Value) (hr : (mRow M).set o v = mRow M') : MAt (w.setCell ⟨t, o, none⟩ v) t M' := by
  unfold MAt
  rw [heap_setCell_same _ _ _ _ _ _ h, ← hr]
  simp
theorem MAt.blk {w w' : World} {t : Nat} {M : Mm} (h : MAt w t M) (e : w'.heap[t]? = w.heap[t]?) : MAt w' t M := e.trans h
theorem MAt.below {w w' : World} {t : Nat} {M : Mm} (h : MAt w t M) (hb : Below w.heap.size w w') : MAt w' t M := h.blk (hb.block t h.lt)
/-- Its numbers are as they should be; no more than K frames were counted of a colour. -/
structure Mm.ok (M : Mm) (K : Int) : Prop where
  r0 : 0 ≤ M.r0 ∧ M.r0 ≤ 10000000000
  r1 : 0 ≤ M.r1 ∧ M.r1 ≤ 10000000000
  f0 : M.f0 ≤ 8388608000000000
  f1 : M.f1 ≤ 8388608000000000
  l0 : 0 ≤ M.l0 ∧ M.l0 ≤ M.f0
  l1 : 0 ≤ M.l1 ∧ M.l1 ≤ M.f1
  now : 0 ≤ M.now
  c0 : 0 ≤ M.c0 ∧ M.c0 ≤ K
  c1 : 0 ≤ M.c1 ∧ M.c1 ≤ K
  c2 : 0 ≤ M.c2 ∧ M.c2 ≤ K
theorem fillN_le {r f l n : Int} (hr : 0 ≤ r) (hlf : l ≤ f) (hn : 0 ≤ n) : l ≤ fillN r f l n ∧ fillN r f l n ≤ f := by
  unfold fillN
  split
  · omega
  · have h4 : 0 ≤ r * n := Int.mul_nonneg hr hn
    rcases (show r = 0 ∨ 0 < r by omega) with rfl | h0
    · omega
    · have h3 : n * r ≤ f - l := (Int.le_ediv_iff_mul_le h0).1 (by omega)
      rw [Int.mul_comm] at h3
      omega
def passM (M : Mm) (now : Int) : Mm := if now ≤ M.now then M else { M with l0 := fillN M.r0 M.f0 M.l0 (now - M.now), l1 := fillN M.r1 M.f1 M.l1 (now - M.now), now := now }
theorem passM_ok {M : Mm} {K : Int} (h : M.ok K) (now : Int) : (passM M now).ok K := by
  unfold passM
  split
  · exact h
  · have a := fillN_le (n := now - M.now) h.r0.1 h.l0.2 (by omega)
    have b := fillN_le (n := now - M.now) h.r1.1 h.l1.2 (by omega)
    exact ⟨h.r0, h.r1, h.f0, h.f1, ⟨by have := h.l0; show 0 ≤ fillN _ _ _ _; omega, a.2⟩, ⟨by have := h.l1; show 0 ≤ fillN _ _ _ _; omega, b.2⟩, by have := h.now; show 0 ≤ now; omega, h.c0, h.c1, h.c2⟩
def passTo (M : Mm) (n : Int) : Nat → Mm
  | 0 => M
  | 1 => { M with l0 := fillN M.r0 M.f0 M.l0 n }
  | _ => { M with l0 := fillN M.r0 M.f0 M.l0 n, l1 := fillN M.r1 M.f1 M.l1 n }
theorem MAt.of_heap {w w' : World} {t : Nat} {M : Mm} (h : MAt w t M) (e : w'.heap = w.heap) : MAt w' t M := by unfold MAt; rw [e]; exact h
theorem pass_any {w : World} {t : Nat} {M : Mm} {K : Int} (h : MAt w t M) (ho : M.ok K) (now : Int) (hn : now ≤ 9223372036854775807) :
    Calls Try.prog 34 #[.pointer (some ⟨t, 0, none⟩), .int .i64 now] w fun e w' => e = .returned (.tuple #[]) ∧ MAt w' t (passM M now) ∧ Ch (· = t) w w' := by
  have hE : Hid (passM M now = if now ≤ M.now then M else { M with l0 := fillN M.r0 M.f0 M.l0 (now - M.now), l1 := fillN M.r1 M.f1 M.l1 (now - M.now), now := now }) := rfl
  generalize passM M now = V at *
  have k6 := h.cell 6
  simp only [mRow, List.getElem?_cons_succ, List.getElem?_cons_zero] at k6
  have ho' := hide ho
  have hh := hide h
  have hp := ho.now
  clear h ho
  by_cases hle : now ≤ M.now
  · have hV : Hid (V = M) := hE.out.trans (if_pos hle)
    clear hE
    generalize M.now = m at *
    go_enter Try.func34, Try.ntmps34
    go_wp2
    exact v_ret rfl rfl ⟨rfl, by rw [hV.out]; exact hh.out, Ch.refl _ _⟩
  · have hV : Hid (V = { M with l0 := fillN M.r0 M.f0 M.l0 (now - M.now), l1 := fillN M.r1 M.f1 M.l1 (now - M.now), now := now }) := hE.out.trans (if_neg hle)
    clear hE
    have hN : Hid (0 ≤ now - M.now) := by show 0 ≤ _; omega
    have hw : Hid (IntKind.i64.wrap (now - M.now) = now - M.now) := IntWalk.i64_in _ (by omega)
    generalize hm : M.now = m at *
    replace hm := hide hm
    go_enter Try.func34, Try.ntmps34
    go_wp2_with fail
    clear k6
    go_loopw [11] (fun i wr => ∃ j : Nat, j ≤ 2 ∧ i = .int .i64 j ∧ Hid (MAt wr t (passTo M (now - m) j)) ∧ Hid (Ch (· = t) w wr)) (fun i _ => 2 - (intOf i).toNat)
    case atStart => exact ⟨0, Nat.zero_le _, rfl, hh, hide (Ch.refl _ _)⟩
    case round =>
      obtain ⟨j, hj, rfl, hT, hG⟩ := hrel
      clear hh
      rcases (show j = 0 ∨ j = 1 ∨ j = 2 by omega) with rfl | rfl | rfl
      · have hc := fun o => hT.out.cell o
        have k0 := hc 0
        have k1 := hc 1
        have k2 := hc 2
        have k6 := hc 6
        simp only [passTo, mRow, List.getElem?_cons_succ, List.getElem?_cons_zero] at k0 k1 k2 k6
        rw [hm.out] at k6
        have hS : Hid (wr.drew.cell? ⟨t, 6, none⟩ = some (.int .i64 m)) := k6
        have hF := hide (fill_any (w := wr.drew) (b := t) (o := 0) (n := now - m) k0 k1 k2 (hT.out.fz 2) ho'.out.r0.1 ho'.out.l0.1 ho'.out.l0.2 ho'.out.f0 hN.out)
        have hT2 := hide ((hT.out : MAt wr t (passTo M (now - m) 0)).put (M' := passTo M (now - m) 1) 2 (.int .i64 (fillN M.r0 M.f0 M.l0 (now - m))) rfl)
        clear hc k0 k1 k2 k6 hT
        generalize hX : fillN M.r0 M.f0 M.l0 (now - m) = X at *
        replace hX := hide hX
        go_wp2_with fail
        refine wp_region_noPanic ?_
        refine wp_region_held_drew (S := fun W => W.cell? ⟨t, 6, none⟩ = some (.int .i64 m)) (by kernel_rfl) hS.out (fun hHeld => ?_)
        refine wpAnyH_take (i := 0) (oi := { dst := some 14, op := Op.move (Operand.tmp 0), type := 26, pos := "meter.go:102", after := #[], guard := none }) (v := ?v1) rfl (by kernel_rfl) (by kernel_rfl) (by kernel_rfl) (fun _ _ _ h => h) (Or.inl ⟨by rfl, ?y1⟩) (by assumption) ?r1
        case y1 => (intro w hSw; (try dsimp only at hSw); (try (go_split_ands)); go_simp; try with_reducible rfl)
        try simp only [Act.put, List.setIfInBounds_toArray, List.set_cons_zero, List.set_cons_succ]
        refine wpAnyH_take (i := 1) (oi := { dst := some 15, op := Op.move (Operand.tmp 4), type := 3, pos := "meter.go:102", after := #[], guard := none }) (v := ?v2) rfl (by kernel_rfl) (by kernel_rfl) (by kernel_rfl) (fun _ _ _ h => h) (Or.inl ⟨by rfl, ?y2⟩) (by assumption) ?r2
        case y2 => (intro w hSw; (try dsimp only at hSw); (try (go_split_ands)); go_simp; try with_reducible rfl)
        try simp only [Act.put, List.setIfInBounds_toArray, List.set_cons_zero, List.set_cons_succ]
        refine wpAnyH_take (i := 2) (oi := { dst := some 16, op := Op.nilCheck (Operand.tmp 14), type := 0, pos := "meter.go:102", after := #[{ on := 0, ground := Ground.data }], guard := none }) (v := ?v3) rfl (by kernel_rfl) (by kernel_rfl) (by kernel_rfl) (fun _ _ _ h => h) (Or.inl ⟨by rfl, ?y3⟩) (by assumption) ?r3
        case y3 => (intro w hSw; (try dsimp only at hSw); (try (go_split_ands)); go_simp; try with_reducible rfl)
        try simp only [Act.put, List.setIfInBounds_toArray, List.set_cons_zero, List.set_cons_succ]
        refine wpAnyH_take (i := 3) (oi := { dst := some 17, op := Op.fieldAddr 64 (Operand.tmp 16) 0, type := 0, pos := "meter.go:102", after := #[{ on := 2, ground := Ground.data }], guard := none }) (v := ?v4) rfl (by kernel_rfl) (by kernel_rfl) (by kernel_rfl) (fun _ _ _ h => h) (Or.inl ⟨by rfl, ?y4⟩) (by assumption) ?r4
        case y4 => (intro w hSw; (try dsimp only at hSw); (try (go_split_ands)); go_simp; try with_reducible rfl)
        try simp only [Act.put, List.setIfInBounds_toArray, List.set_cons_zero, List.set_cons_succ]
        refine wpAnyH_take (i := 4) (oi := { dst := some 18, op := Op.indexAddr 62 (Operand.tmp 17) (Operand.tmp 15), type := 0, pos := "meter.go:102", after := #[{ on := 3, ground := Ground.data }, { on := 1, ground := Ground.data }], guard := none }) (v := ?v5) rfl (by kernel_rfl) (by kernel_rfl) (by kernel_rfl) (fun _ _ _ h => h) (Or.inl ⟨by rfl, ?y5⟩) (by assumption) ?r5
        case y5 => (intro w hSw; (try dsimp only at hSw); (try (go_split_ands)); go_simp; try with_reducible rfl)
        try simp only [Act.put, List.setIfInBounds_toArray, List.set_cons_zero, List.set_cons_succ]
        refine wpAnyH_take (i := 5) (oi := { dst := some 19, op := Op.move (Operand.tmp 1), type := 2, pos := "meter.go:102", after := #[], guard := none }) (v := ?v6) rfl (by kernel_rfl) (by kernel_rfl) (by kernel_rfl) (fun _ _ _ h => h) (Or.inl ⟨by rfl, ?y6⟩) (by assumption) ?r6
        case y6 => (intro w hSw; (try dsimp only at hSw); (try (go_split_ands)); go_simp; try with_reducible rfl)
        try simp only [Act.put, List.setIfInBounds_toArray, List.set_cons_zero, List.set_cons_succ]
        refine wpAnyH_take (i := 6) (oi := { dst := some 20, op := Op.move (Operand.tmp 0), type := 26, pos := "meter.go:102", after := #[], guard := none }) (v := ?v7) rfl (by kernel_rfl) (by kernel_rfl) (by kernel_rfl) (fun _ _ _ h => h) (Or.inl ⟨by rfl, ?y7⟩) (by assumption) ?r7
        case y7 => (intro w hSw; (try dsimp only at hSw); (try (go_split_ands)); go_simp; try with_reducible rfl)
        try simp only [Act.put, List.setIfInBounds_toArray, List.set_cons_zero, List.set_cons_succ]
        refine wpAnyH_take (i := 7) (oi := { dst := some 21, op := Op.nilCheck (Operand.tmp 20), type := 0, pos := "meter.go:102", after := #[{ on := 6, ground := Ground.data }], guard := none }) (v := ?v8) rfl (by kernel_rfl) (by kernel_rfl) (by kernel_rfl) (fun _ _ _ h => h) (Or.inl ⟨by rfl, ?y8⟩) (by assumption) ?r8
        case y8 => (intro w hSw; (try dsimp only at hSw); (try (go_split_ands)); go_simp; try with_reducible rfl)
        try simp only [Act.put, List.setIfInBounds_toArray, List.set_cons_zero, List.set_cons_succ]
        refine wpAnyH_take (i := 8) (oi := { dst := some 22, op := Op.fieldAddr 64 (Operand.tmp 21) 1, type := 0, pos := "meter.go:102", after := #[{ on := 7, ground := Ground.data }], guard := none }) (v := ?v9) rfl (by kernel_rfl) (by kernel_rfl) (by kernel_rfl) (fun _ _ _ h => h) (Or.inl ⟨by rfl, ?y9⟩) (by assumption) ?r9
        case y9 => (intro w hSw; (try dsimp only at hSw); (try (go_split_ands)); go_simp; try with_reducible rfl)
        try simp only [Act.put, List.setIfInBounds_toArray, List.set_cons_zero, List.set_cons_succ]
        refine wpAnyH_take (i := 9) (oi := { dst := some 23, op := Op.load 2 (Operand.tmp 22), type := 2, pos := "meter.go:102", after := #[{ on := 8, ground := Ground.data }], guard := none }) (v := ?v10) rfl (by kernel_rfl) (by kernel_rfl) (by kernel_rfl) (fun _ _ _ h => h) (Or.inl ⟨by rfl, ?y10⟩) (by assumption) ?r10
        case y10 => (intro w hSw; (try dsimp only at hSw); (try (go_split_ands)); go_simp; try with_reducible rfl)
        try simp only [Act.put, List.setIfInBounds_toArray, List.set_cons_zero, List.set_cons_succ]
        refine wpAnyH_take (i := 10) (oi := { dst := some 24, op := Op.binOp BinOp.sub 2 (Operand.tmp 19) (Operand.tmp 23) 2, type := 2, pos := "meter.go:102", after := #[{ on := 5, ground := Ground.data }, { on := 9, ground := Ground.data }], guard := none }) (v := ?v11) rfl (by kernel_rfl) (by kernel_rfl) (by kernel_rfl) (fun _ _ _ h => h) (Or.inl ⟨by rfl, ?y11⟩) (by assumption) ?r11
        case y11 => (intro w hSw; (try dsimp only at hSw); (try (go_split_ands)); go_simp; try with_reducible rfl)
        try simp only [Act.put, List.setIfInBounds_toArray, List.set_cons_zero, List.set_cons_succ]
        clear hHeld
        refine wpAnyH_ready (rs := [11]) (by kernel_rfl) (by simp) ?_
        refine AllReadyH.cons (o := { dst := some 25, op := Op.call { callee := Callee.value (Operand.func 48), args := #[Operand.tmp 18, Operand.tmp 24], argTypes := #[60, 2] }, type := 0, pos := "meter.go:102", after := #[{ on := 4, ground := Ground.data }, { on := 10, ground := Ground.data }], guard := none }) rfl (fun K hK => ?_) AllReadyH.nil
        go_simp
        rw [hw.out]
        refine hF.out.mono ?_
        rintro e w2 ⟨rfl, hq, hC⟩
        have hT3 : Hid (MAt w2 t (passTo M (now - m) 1)) := hT2.out.of_heap hq
        have hC3 : Hid (Ch (· = t) w w2) := (hG.out.trans (Ch.of_below (below_drewN (Below.refl _ _) 1))).trans hC
        have h6 : w2.cell? ⟨t, 6, none⟩ = some (.int .i64 m) := by rw [hT3.out.cell 6, ← hm.out]; rfl
        clear hF hT2 hq hC hG
        go_wp2_with fail
        refine hK.out _ _ ?_ (fun hHeld11 => ?_)
        · exact h6
        clear hK K
        try simp only [Act.put, List.setIfInBounds_toArray, List.set_cons_zero, List.set_cons_succ]
        refine wpAnyH_done (by kernel_rfl) ?_ _
        refine NoPanic.normal ?_
        clear h6 hHeld11 hS
        go_wp2
        go_roundw
        case rel => exact ⟨1, by omega, rfl, hT3, hC3⟩
        case measure => simp [intOf]
      · have hc := fun o => hT.out.cell o
        have k0 := hc 3
        have k1 := hc 4
        have k2 := hc 5
        have k6 := hc 6
        simp only [passTo, mRow, List.getElem?_cons_succ, List.getElem?_cons_zero] at k0 k1 k2 k6
        rw [hm.out] at k6
        have hS : Hid (wr.drew.cell? ⟨t, 6, none⟩ = some (.int .i64 m)) := k6
        have hF := hide (fill_any (w := wr.drew) (b := t) (o := 3) (n := now - m) k0 k1 k2 (hT.out.fz 5) ho'.out.r1.1 ho'.out.l1.1 ho'.out.l1.2 ho'.out.f1 hN.out)
        have hT2 := hide ((hT.out : MAt wr t (passTo M (now - m) 1)).put (M' := passTo M (now - m) 2) 5 (.int .i64 (fillN M.r1 M.f1 M.l1 (now - m))) rfl)
        clear hc k0 k1 k2 k6 hT
        generalize hX : fillN M.r1 M.f1 M.l1 (now - m) = X at *
        replace hX := hide hX
        go_wp2_with fail
        refine wp_region_noPanic ?_
        refine wp_region_held_drew (S := fun W => W.cell? ⟨t, 6, none⟩ = some (.int .i64 m)) (by kernel_rfl) hS.out (fun hHeld => ?_)
        refine wpAnyH_take (i := 0) (oi := { dst := some 14, op := Op.move (Operand.tmp 0), type := 26, pos := "meter.go:102", after := #[], guard := none }) (v := ?v12) rfl (by kernel_rfl) (by kernel_rfl) (by kernel_rfl) (fun _ _ _ h => h) (Or.inl ⟨by rfl, ?y12⟩) (by assumption) ?r12
        case y12 => (intro w hSw; (try dsimp only at hSw); (try (go_split_ands)); go_simp; try with_reducible rfl)
        try simp only [Act.put, List.setIfInBounds_toArray, List.set_cons_zero, List.set_cons_succ]
        refine wpAnyH_take (i := 1) (oi := { dst := some 15, op := Op.move (Operand.tmp 4), type := 3, pos := "meter.go:102", after := #[], guard := none }) (v := ?v13) rfl (by kernel_rfl) (by kernel_rfl) (by kernel_rfl) (fun _ _ _ h => h) (Or.inl ⟨by rfl, ?y13⟩) (by assumption) ?r13
        case y13 => (intro w hSw; (try dsimp only at hSw); (try (go_split_ands)); go_simp; try with_reducible rfl)
        try simp only [Act.put, List.setIfInBounds_toArray, List.set_cons_zero, List.set_cons_succ]
        refine wpAnyH_take (i := 2) (oi := { dst := some 16, op := Op.nilCheck (Operand.tmp 14), type := 0, pos := "meter.go:102", after := #[{ on := 0, ground := Ground.data }], guard := none }) (v := ?v14) rfl (by kernel_rfl) (by kernel_rfl) (by kernel_rfl) (fun _ _ _ h => h) (Or.inl ⟨by rfl, ?y14⟩) (by assumption) ?r14
        case y14 => (intro w hSw; (try dsimp only at hSw); (try (go_split_ands)); go_simp; try with_reducible rfl)
        try simp only [Act.put, List.setIfInBounds_toArray, List.set_cons_zero, List.set_cons_succ]
        refine wpAnyH_take (i := 3) (oi := { dst := some 17, op := Op.fieldAddr 64 (Operand.tmp 16) 0, type := 0, pos := "meter.go:102", after := #[{ on := 2, ground := Ground.data }], guard := none }) (v := ?v15) rfl (by kernel_rfl) (by kernel_rfl) (by kernel_rfl) (fun _ _ _ h => h) (Or.inl ⟨by rfl, ?y15⟩) (by assumption) ?r15
        case y15 => (intro w hSw; (try dsimp only at hSw); (try (go_split_ands)); go_simp; try with_reducible rfl)
        try simp only [Act.put, List.setIfInBounds_toArray, List.set_cons_zero, List.set_cons_succ]
        refine wpAnyH_take (i := 4) (oi := { dst := some 18, op := Op.indexAddr 62 (Operand.tmp 17) (Operand.tmp 15), type := 0, pos := "meter.go:102", after := #[{ on := 3, ground := Ground.data }, { on := 1, ground := Ground.data }], guard := none }) (v := ?v16) rfl (by kernel_rfl) (by kernel_rfl) (by kernel_rfl) (fun _ _ _ h => h) (Or.inl ⟨by rfl, ?y16⟩) (by assumption) ?r16
        case y16 => (intro w hSw; (try dsimp only at hSw); (try (go_split_ands)); go_simp; try with_reducible rfl)
        try simp only [Act.put, List.setIfInBounds_toArray, List.set_cons_zero, List.set_cons_succ]
        refine wpAnyH_take (i := 5) (oi := { dst := some 19, op := Op.move (Operand.tmp 1), type := 2, pos := "meter.go:102", after := #[], guard := none }) (v := ?v17) rfl (by kernel_rfl) (by kernel_rfl) (by kernel_rfl) (fun _ _ _ h => h) (Or.inl ⟨by rfl, ?y17⟩) (by assumption) ?r17
        case y17 => (intro w hSw; (try dsimp only at hSw); (try (go_split_ands)); go_simp; try with_reducible rfl)
        try simp only [Act.put, List.setIfInBounds_toArray, List.set_cons_zero, List.set_cons_succ]
        refine wpAnyH_take (i := 6) (oi := { dst := some 20, op := Op.move (Operand.tmp 0), type := 26, pos := "meter.go:102", after := #[], guard := none }) (v := ?v18) rfl (by kernel_rfl) (by kernel_rfl) (by kernel_rfl) (fun _ _ _ h => h) (Or.inl ⟨by rfl, ?y18⟩) (by assumption) ?r18
        case y18 => (intro w hSw; (try dsimp only at hSw); (try (go_split_ands)); go_simp; try with_reducible rfl)
        try simp only [Act.put, List.setIfInBounds_toArray, List.set_cons_zero, List.set_cons_succ]
        refine wpAnyH_take (i := 7) (oi := { dst := some 21, op := Op.nilCheck (Operand.tmp 20), type := 0, pos := "meter.go:102", after := #[{ on := 6, ground := Ground.data }], guard := none }) (v := ?v19) rfl (by kernel_rfl) (by kernel_rfl) (by kernel_rfl) (fun _ _ _ h => h) (Or.inl ⟨by rfl, ?y19⟩) (by assumption) ?r19
        case y19 => (intro w hSw; (try dsimp only at hSw); (try (go_split_ands)); go_simp; try with_reducible rfl)
        try simp only [Act.put, List.setIfInBounds_toArray, List.set_cons_zero, List.set_cons_succ]
        refine wpAnyH_take (i := 8) (oi := { dst := some 22, op := Op.fieldAddr 64 (Operand.tmp 21) 1, type := 0, pos := "meter.go:102", after := #[{ on := 7, ground := Ground.data }], guard := none }) (v := ?v20) rfl (by kernel_rfl) (by kernel_rfl) (by kernel_rfl) (fun _ _ _ h => h) (Or.inl ⟨by rfl, ?y20⟩) (by assumption) ?r20
        case y20 => (intro w hSw; (try dsimp only at hSw); (try (go_split_ands)); go_simp; try with_reducible rfl)
        try simp only [Act.put, List.setIfInBounds_toArray, List.set_cons_zero, List.set_cons_succ]
        refine wpAnyH_take (i := 9) (oi := { dst := some 23, op := Op.load 2 (Operand.tmp 22), type := 2, pos := "meter.go:102", after := #[{ on := 8, ground := Ground.data }], guard := none }) (v := ?v21) rfl (by kernel_rfl) (by kernel_rfl) (by kernel_rfl) (fun _ _ _ h => h) (Or.inl ⟨by rfl, ?y21⟩) (by assumption) ?r21
        case y21 => (intro w hSw; (try dsimp only at hSw); (try (go_split_ands)); go_simp; try with_reducible rfl)
        try simp only [Act.put, List.setIfInBounds_toArray, List.set_cons_zero, List.set_cons_succ]
        refine wpAnyH_take (i := 10) (oi := { dst := some 24, op := Op.binOp BinOp.sub 2 (Operand.tmp 19) (Operand.tmp 23) 2, type := 2, pos := "meter.go:102", after := #[{ on := 5, ground := Ground.data }, { on := 9, ground := Ground.data }], guard := none }) (v := ?v22) rfl (by kernel_rfl) (by kernel_rfl) (by kernel_rfl) (fun _ _ _ h => h) (Or.inl ⟨by rfl, ?y22⟩) (by assumption) ?r22
        case y22 => (intro w hSw; (try dsimp only at hSw); (try (go_split_ands)); go_simp; try with_reducible rfl)
        try simp only [Act.put, List.setIfInBounds_toArray, List.set_cons_zero, List.set_cons_succ]
        clear hHeld
        refine wpAnyH_ready (rs := [11]) (by kernel_rfl) (by simp) ?_
        refine AllReadyH.cons (o := { dst := some 25, op := Op.call { callee := Callee.value (Operand.func 48), args := #[Operand.tmp 18, Operand.tmp 24], argTypes := #[60, 2] }, type := 0, pos := "meter.go:102", after := #[{ on := 4, ground := Ground.data }, { on := 10, ground := Ground.data }], guard := none }) rfl (fun K hK => ?_) AllReadyH.nil
        go_simp
        rw [hw.out]
        refine hF.out.mono ?_
        rintro e w2 ⟨rfl, hq, hC⟩
        have hT3 : Hid (MAt w2 t (passTo M (now - m) 2)) := hT2.out.of_heap hq
        have hC3 : Hid (Ch (· = t) w w2) := (hG.out.trans (Ch.of_below (below_drewN (Below.refl _ _) 1))).trans hC
        have h6 : w2.cell? ⟨t, 6, none⟩ = some (.int .i64 m) := by rw [hT3.out.cell 6, ← hm.out]; rfl
        clear hF hT2 hq hC hG
        go_wp2_with fail
        refine hK.out _ _ ?_ (fun hHeld11 => ?_)
        · exact h6
        clear hK K
        try simp only [Act.put, List.setIfInBounds_toArray, List.set_cons_zero, List.set_cons_succ]
        refine wpAnyH_done (by kernel_rfl) ?_ _
        refine NoPanic.normal ?_
        clear h6 hHeld11 hS
        go_wp2
        go_roundw
        case rel => exact ⟨2, by omega, rfl, hT3, hC3⟩
        case measure => simp [intOf]
      · have hT4 := hide (hT.out.put (M' := { M with l0 := fillN M.r0 M.f0 M.l0 (now - m), l1 := fillN M.r1 M.f1 M.l1 (now - m), now := now }) 6 (.int .i64 now) rfl)
        have hC4 := hide (hG.out.trans (Ch.setCells t 6 wr [.int .i64 now]))
        have z6 := hT.out.fz 6
        have k6 := hT.out.cell 6
        simp only [passTo, mRow, List.getElem?_cons_succ, List.getElem?_cons_zero] at k6
        clear hT hG
        go_wp2
        exact v_end rfl rfl ⟨rfl, by rw [hV.out]; exact hT4.out, hC4.out⟩
end Go.Proofs.Ytmacdghkbmjdmaa
