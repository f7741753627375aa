
/-
  A port as layer 9 has it, a row of such ports in memory, a way; contracts of role's leads, before, bestWay, roleOf. Conditions: those that each theorem names.
-/
import Derived.Test.YtoejoneecanbbaaVec2
namespace Go.Proofs.Ytoejoneecanbbaa
open Go.RowKit
set_option linter.unusedVariables false
set_option maxRecDepth 20000

structure Rp where
  (id cost : Int) (up has : Bool) (told : Vc)
  deriving DecidableEq
instance : Inhabited Rp := ⟨⟨0, 0, false, false, Vc.zero⟩⟩
@[reducible] def Rp.zero : Rp := ⟨0, 0, false, false, Vc.zero⟩
@[reducible] def Rp.row (p : Rp) : Array Value := #[.int .i64 p.id, .int .u64 p.cost, .bool p.up, .bool p.has, .int .u64 p.told.root, .int .u64 p.told.cost, .int .u64 p.told.bridge, .int .i64 p.told.port]
structure Rp.wf (p : Rp) : Prop where
  id : I64 p.id
  cost : U64 p.cost
  told : p.told.wf
/-- The cells of a port of layer 9 at a place. -/
structure RpAt (w : World) (b o : Nat) (p : Rp) : Prop where
  c0 : w.cell? ⟨b, o, none⟩ = some (.int .i64 p.id)
  c1 : w.cell? ⟨b, o + 1, none⟩ = some (.int .u64 p.cost)
  c2 : w.cell? ⟨b, o + 2, none⟩ = some (.bool p.up)
  c3 : w.cell? ⟨b, o + 3, none⟩ = some (.bool p.has)
  c4 : w.cell? ⟨b, o + 4, none⟩ = some (.int .u64 p.told.root)
  c5 : w.cell? ⟨b, o + 5, none⟩ = some (.int .u64 p.told.cost)
  c6 : w.cell? ⟨b, o + 6, none⟩ = some (.int .u64 p.told.bridge)
  c7 : w.cell? ⟨b, o + 7, none⟩ = some (.int .i64 p.told.port)
theorem RpAt.blk {w w' : World} {b o : Nat} {p : Rp} (h : RpAt w b o p) (hb : w'.heap[b]? = w.heap[b]?) : RpAt w' b o p :=
  ⟨(World.cell?_of_block (a := ⟨b, o, none⟩) hb).trans h.c0, (World.cell?_of_block (a := ⟨b, o + 1, none⟩) hb).trans h.c1, (World.cell?_of_block (a := ⟨b, o + 2, none⟩) hb).trans h.c2, (World.cell?_of_block (a := ⟨b, o + 3, none⟩) hb).trans h.c3,
    (World.cell?_of_block (a := ⟨b, o + 4, none⟩) hb).trans h.c4, (World.cell?_of_block (a := ⟨b, o + 5, none⟩) hb).trans h.c5, (World.cell?_of_block (a := ⟨b, o + 6, none⟩) hb).trans h.c6, (World.cell?_of_block (a := ⟨b, o + 7, none⟩) hb).trans h.c7⟩
theorem RpAt.below {w w' : World} {b o : Nat} {p : Rp} (h : RpAt w b o p) (hb : Below w.heap.size w w') : RpAt w' b o p := h.blk (hb.block b (block_lt_of_cell h.c0))
theorem RpAt.of_heap {w : World} {b : Nat} {p : Rp} {t : TypeId} {fr : Nat × Nat} (h : w.heap[b]? = some (.cells p.row t fr)) : RpAt w b 0 p :=
  ⟨(cell_of_row _ _ _ _ _ _ h).trans rfl, (cell_of_row _ _ _ _ _ _ h).trans rfl, (cell_of_row _ _ _ _ _ _ h).trans rfl, (cell_of_row _ _ _ _ _ _ h).trans rfl, (cell_of_row _ _ _ _ _ _ h).trans rfl, (cell_of_row _ _ _ _ _ _ h).trans rfl, (cell_of_row _ _ _ _ _ _ h).trans rfl, (cell_of_row _ _ _ _ _ _ h).trans rfl⟩
/-- A row of them. -/
def Rps (w : World) (a : Option Addr) (n : Nat) (ps : List Rp) : Prop := ps.length = n ∧ ∀ i, i < n → ∃ b off, a = some ⟨b, off, none⟩ ∧ RpAt w b (off + i * 8) (ps.getD i Rp.zero) ∧ (ps.getD i Rp.zero).wf
theorem Rps.below {w w' : World} {a : Option Addr} {n : Nat} {ps : List Rp} (h : Rps w a n ps) (hb : Below w.heap.size w w') : Rps w' a n ps := by
  refine ⟨h.1, fun i hi => ?_⟩
  obtain ⟨b, off, e, h1, h2⟩ := h.2 i hi
  exact ⟨b, off, e, h1.below hb, h2⟩

structure Wy where
  (v : Vc) (place id : Int)
  deriving DecidableEq
@[reducible] def Wy.row (y : Wy) : Array Value := #[.int .u64 y.v.root, .int .u64 y.v.cost, .int .u64 y.v.bridge, .int .i64 y.v.port, .int .i64 y.place, .int .i64 y.id]
theorem waySize (y : Wy) : (Try.prog.info? 92).map (·.size) = some y.row.size := by kernel_rfl
theorem Wy.row_all (y : Wy) : y.row.all (·.oneCell') = true := by simp [Value.oneCell']
def leadB (y : Wy) (b : Int) : Bool := decide (y.v.root < b) && !decide (y.v.bridge = b)
def befB (y z : Wy) : Bool := decide (cmpN y.v z.v < 0) || (decide (cmpN y.v z.v = 0) && decide (y.id < z.id))
theorem int_bne (a b : Int) : (a != b) = !decide (a = b) := by
  rw [bne, int_beq]
theorem leads_any (y : Wy) (b : Int) (w : World) : Calls Try.prog 69 #[.agg y.row, .int .u64 b] w fun r w' => r = .returned (.bool (leadB y b)) ∧ Below w.heap.size w w' := by
  have hP : Hid (leadB y b = (decide (y.v.root < b) && !decide (y.v.bridge = b))) := rfl
  generalize leadB y b = x at *
  obtain ⟨⟨a0, a1, a2, a3⟩, pl, id⟩ := y
  dsimp only at *
  go_enter Try.func69, Try.ntmps69
  by_cases h1 : a0 < b
  · go_wp2
    go_ret
    refine ⟨ret_bool ?_, below1 _ _⟩
    rw [hP.out]
    simp [h1, int_bne]
  · go_wp2
    go_ret
    refine ⟨ret_bool ?_, below1 _ _⟩
    rw [hP.out, decide_eq_false (show ¬ a0 < b by omega), Bool.false_and]
theorem before_any (y z : Wy) (w : World) : Calls Try.prog 70 #[.agg y.row, .agg z.row] w fun r w' => r = .returned (.bool (befB y z)) ∧ Below w.heap.size w w' := by
  have hP : Hid (befB y z = (decide (cmpN y.v z.v < 0) || (decide (cmpN y.v z.v = 0) && decide (y.id < z.id)))) := rfl
  generalize befB y z = x at *
  obtain ⟨⟨a0, a1, a2, a3⟩, pl, id⟩ := y
  obtain ⟨⟨b0, b1, b2, b3⟩, pl', id'⟩ := z
  have hC := hide (fun w => Compare_any ⟨a0, a1, a2, a3⟩ ⟨b0, b1, b2, b3⟩ w)
  dsimp only at *
  generalize cmpN ⟨a0, a1, a2, a3⟩ ⟨b0, b1, b2, b3⟩ = c at *
  have hA := heap_alloc2_oldB w (.cells (Wy.row ⟨⟨a0, a1, a2, a3⟩, pl, id⟩) 92) (.cells (Wy.row ⟨⟨b0, b1, b2, b3⟩, pl', id'⟩) 92)
  have hB := heap_alloc2_newB w (.cells (Wy.row ⟨⟨a0, a1, a2, a3⟩, pl, id⟩) 92) (.cells (Wy.row ⟨⟨b0, b1, b2, b3⟩, pl', id'⟩) 92)
  have hb0 : Below w.heap.size w ((w.alloc (.cells (Wy.row ⟨⟨a0, a1, a2, a3⟩, pl, id⟩) 92)).alloc (.cells (Wy.row ⟨⟨b0, b1, b2, b3⟩, pl', id'⟩) 92)) := (below1 _ _).later (below1 _ _)
  go_enter Try.func70, Try.ntmps70
  go_wp2_with fail
  refine (hC.out _).mono ?_
  rintro e w2 ⟨rfl, hb2⟩
  have hA2 := heap_kept hb2 hA
  have hB2 := heap_kept hb2 hB
  have hb := hide (hb0.later hb2)
  clear hA hB hb0 hb2 hC
  have c5 : w2.cell? ⟨w.heap.size, 5, none⟩ = some (.int .i64 id) := (cell_of_row _ _ _ _ _ _ hA2).trans rfl
  have d5 : w2.cell? ⟨w.heap.size + 1, 5, none⟩ = some (.int .i64 id') := (cell_of_row _ _ _ _ _ _ hB2).trans rfl
  clear hA2 hB2
  by_cases h1 : c < 0
  · go_wp2
    go_ret
    refine ⟨ret_bool ?_, hb.out⟩
    rw [hP.out]
    simp [h1]
  · by_cases h2 : c = 0
    · subst h2
      go_wp2
      go_ret
      refine ⟨ret_bool ?_, hb.out⟩
      rw [hP.out]
      simp
    · have hne : (c == 0) = false := by rw [beq_eq_false_iff_ne]; exact h2
      go_wp2
      go_ret
      refine ⟨ret_bool ?_, hb.out⟩
      rw [hP.out, decide_eq_false h2, decide_eq_false (show ¬ c < 0 by omega)]
      rfl
def overV (v : Vc) (c : Int) : Vc := ⟨v.root, overN v.cost c, v.bridge, v.port⟩
def wayOf (p : Rp) (i : Nat) : Wy := ⟨overV p.told p.cost, i, p.id⟩
def stepW (b : Int) (y : Wy) (i : Nat) (p : Rp) : Wy := if p.up = true ∧ p.has = true then (if leadB (wayOf p i) b = true ∧ befB (wayOf p i) y = true then wayOf p i else y) else y
def bestW (b : Int) (ps : List Rp) : Nat → Wy
  | 0 => ⟨⟨b, 0, b, 0⟩, -1, 0⟩
  | k + 1 => stepW b (bestW b ps k) k (ps.getD k Rp.zero)
def roleN (p : Rp) (r : Bool) (t : Vc) : Int := if p.up = false then 0 else if r = true then 1 else if p.has = false ∨ betB p.told t = false then 2 else if p.told.bridge = t.bridge then 4 else 3
/-- bestWay's answer. -/
theorem bestWay_any (b : Int) (a : Option Addr) (n cap : Nat) (ps : List Rp) (w : World) (hn : n ≤ 100000) (hI : Hid (Rps w a n ps)) :
    Calls Try.prog 55 #[.int .u64 b, .slice a n cap] w fun r w' => r = .returned (.agg (bestW b ps n).row) ∧ Below w.heap.size w w' := by
  go_enter Try.func55, Try.ntmps55
  go_wp2_with fail
  refine (Own_any b 0 _).mono ?_
  rintro e w1 ⟨rfl, hb1⟩
  have hR := heap_kept hb1 (heap_alloc_new w (.cells (Wy.row ⟨Vc.zero, 0, 0⟩) 92))
  have hB1 := hide ((below1 w _).later hb1)
  clear hb1
  go_wp2_with fail
  generalize hq : w1.heap.size = q at *
  have hqw : w.heap.size < q := by
    have := hB1.out.size
    have h2 := (Array.getElem?_eq_some_iff.1 hR).1
    omega
  have hN : (w1.alloc (.cells (Wy.row ⟨⟨b, 0, b, 0⟩, -1, 0⟩) 92)).heap[q]? = some (.cells (Wy.row ⟨⟨b, 0, b, 0⟩, -1, 0⟩) 92) := by rw [← hq]; exact heap_alloc_new w1 _
  have hR2 := heap_kept (below1 w1 (.cells (Wy.row ⟨⟨b, 0, b, 0⟩, -1, 0⟩) 92)) hR
  have hB2 := hide (hB1.out.later (below1 w1 (.cells (Wy.row ⟨⟨b, 0, b, 0⟩, -1, 0⟩) 92)))
  replace hN := hide hN
  replace hR2 := hide hR2
  clear hR hB1 hq
  go_loopw [14] (fun i wr => ∃ j : Nat, j ≤ n ∧ i = .int .i64 j ∧ Hid (Below w.heap.size w wr) ∧ Hid (wr.heap[w.heap.size]? = some (.cells (Wy.row ⟨Vc.zero, 0, 0⟩) 92)) ∧ Hid (wr.heap[q]? = some (.cells (bestW b ps j).row 92))) (fun i _ => n - (intOf i).toNat)
  case atStart => exact ⟨0, Nat.zero_le _, rfl, hB2, hR2, hN⟩
  case round =>
    obtain ⟨j, hj, rfl, hB, hZ, hQ⟩ := hrel
    clear hB2 hR2 hN
    by_cases hlt : j < n
    · obtain ⟨bb, off, rfl, hP, hwf⟩ := (hI.out.below hB.out).2 j hlt
      have hS : Hid (bestW b ps (j + 1) = stepW b (bestW b ps j) j (ps.getD j Rp.zero)) := rfl
      generalize hB0 : bestW b ps j = Y at *
      generalize ps.getD j Rp.zero = p at *
      replace hwf := hide hwf
      obtain ⟨id, cost, up, has, ⟨a0, a1, a2, a3⟩⟩ := p
      obtain ⟨c0, c1, c2, c3, c4, c5, c6, c7⟩ := hP
      dsimp only at *
      have hA := below1 wr (.cells (Rp.row ⟨id, cost, up, has, ⟨a0, a1, a2, a3⟩⟩) 32)
      have hZ1 := hide (heap_kept hA hZ.out)
      have hQ1 := hide (heap_kept hA hQ.out)
      have hB1 := hide (hB.out.later hA)
      cases up
      · have hE : Hid (bestW b ps (j + 1) = Y) := hS.out
        rw [← hE.out] at hQ1
        clear hA
        go_wp2
        go_round
        case rel => exact ⟨j + 1, by omega, by go_num, hB1, hZ1, hQ1⟩
        case measure => simp [intOf]; omega
      cases has
      · have hE : Hid (bestW b ps (j + 1) = Y) := hS.out
        rw [← hE.out] at hQ1
        clear hA
        go_wp2
        go_round
        case rel => exact ⟨j + 1, by omega, by go_num, hB1, hZ1, hQ1⟩
        case measure => simp [intOf]; omega
      have hO := hide (fun w => Over_any ⟨a0, a1, a2, a3⟩ cost w hwf.out.told.cost hwf.out.cost)
      have hL := hide (fun w => leads_any ⟨⟨a0, overN a1 cost, a2, a3⟩, j, id⟩ b w)
      have hF := hide (fun w => before_any ⟨⟨a0, overN a1 cost, a2, a3⟩, j, id⟩ Y w)
      have hS1 : Hid (bestW b ps (j + 1) = if leadB ⟨⟨a0, overN a1 cost, a2, a3⟩, j, id⟩ b = true ∧ befB ⟨⟨a0, overN a1 cost, a2, a3⟩, j, id⟩ Y = true then ⟨⟨a0, overN a1 cost, a2, a3⟩, j, id⟩ else Y) := hS.out
      clear hS
      dsimp only at *
      generalize overN a1 cost = ov at *
      generalize leadB ⟨⟨a0, ov, a2, a3⟩, j, id⟩ b = lB at *
      generalize befB ⟨⟨a0, ov, a2, a3⟩, j, id⟩ Y = fB at *
      have hP1 := RpAt.of_heap (heap_alloc_new wr (.cells (Rp.row ⟨id, cost, true, true, ⟨a0, a1, a2, a3⟩⟩) 32))
      have hsz := hide (World.size_alloc wr (.cells (Rp.row ⟨id, cost, true, true, ⟨a0, a1, a2, a3⟩⟩) 32))
      go_wp2_with fail
      generalize wr.alloc (.cells (Rp.row ⟨id, cost, true, true, ⟨a0, a1, a2, a3⟩⟩) 32) = wp at *
      generalize wr.heap.size = pb at *
      replace hP1 := hide hP1
      clear c0 c1 c2 c3 c4 c5 c6 c7
      obtain ⟨c0, c1, c2, c3, c4, c5, c6, c7⟩ := hP1.out
      dsimp only at *
      simp only [Nat.zero_add] at c0 c1 c2 c3 c4 c5 c6 c7
      refine (fun (key : (?T : Prop)) => ?main) ?kp
      case main =>
        refine wp_region_noPanic ?_
        refine wp_region_held_drew (S := fun W => Below wp.heap.size wp W ∧ W.cell? ⟨pb, 0, none⟩ = some (.int .i64 id) ∧ W.cell? ⟨pb, 1, none⟩ = some (.int .u64 cost) ∧ W.cell? ⟨pb, 4, none⟩ = some (.int .u64 a0) ∧ W.cell? ⟨pb, 5, none⟩ = some (.int .u64 a1) ∧ W.cell? ⟨pb, 6, none⟩ = some (.int .u64 a2) ∧ W.cell? ⟨pb, 7, none⟩ = some (.int .i64 a3)) (by kernel_rfl) ⟨below_drewN (Below.refl _ _) 1, c0, c1, c4, c5, c6, c7⟩ (fun hHeld => ?_)
        refine wpAnyH_take (i := 0) (oi := { dst := some 27, op := Op.fieldAddr 32 (Operand.tmp 7) 4, type := 0, pos := "role.go:75", after := #[], guard := none }) (v := ?v1) rfl (by kernel_rfl) (by kernel_rfl) (by kernel_rfl) (fun _ _ _ h => h) (Or.inl ⟨by rfl, ?y1⟩) (by assumption) ?r1
        case y1 => (intro w hSw; (try dsimp only at hSw); (try (go_split_ands)); go_simp; try with_reducible rfl)
        try simp only [Act.put, List.setIfInBounds_toArray, List.set_cons_zero, List.set_cons_succ]
        refine wpAnyH_take (i := 1) (oi := { dst := some 28, op := Op.load 30 (Operand.tmp 27), type := 30, pos := "role.go:75", after := #[{ on := 0, ground := Ground.data }], guard := none }) (v := ?v2) rfl (by kernel_rfl) (by kernel_rfl) (by kernel_rfl) (fun _ _ _ h => h) (Or.inl ⟨by rfl, ?y2⟩) (by assumption) ?r2
        case y2 => (intro w hSw; (try dsimp only at hSw); (try (go_split_ands)); go_simp; try with_reducible rfl)
        try simp only [Act.put, List.setIfInBounds_toArray, List.set_cons_zero, List.set_cons_succ]
        refine wpAnyH_take (i := 2) (oi := { dst := some 29, op := Op.fieldAddr 32 (Operand.tmp 7) 1, type := 0, pos := "role.go:75", after := #[], guard := none }) (v := ?v3) rfl (by kernel_rfl) (by kernel_rfl) (by kernel_rfl) (fun _ _ _ h => h) (Or.inl ⟨by rfl, ?y3⟩) (by assumption) ?r3
        case y3 => (intro w hSw; (try dsimp only at hSw); (try (go_split_ands)); go_simp; try with_reducible rfl)
        try simp only [Act.put, List.setIfInBounds_toArray, List.set_cons_zero, List.set_cons_succ]
        refine wpAnyH_take (i := 3) (oi := { dst := some 30, op := Op.load 22 (Operand.tmp 29), type := 22, pos := "role.go:75", after := #[{ on := 2, ground := Ground.data }], guard := none }) (v := ?v4) rfl (by kernel_rfl) (by kernel_rfl) (by kernel_rfl) (fun _ _ _ h => h) (Or.inl ⟨by rfl, ?y4⟩) (by assumption) ?r4
        case y4 => (intro w hSw; (try dsimp only at hSw); (try (go_split_ands)); go_simp; try with_reducible rfl)
        try simp only [Act.put, List.setIfInBounds_toArray, List.set_cons_zero, List.set_cons_succ]
        refine wpAnyH_take (i := 5) (oi := { dst := some 32, op := Op.move (Operand.tmp 6), type := 3, pos := "role.go:75", after := #[], guard := none }) (v := ?v5) rfl (by kernel_rfl) (by kernel_rfl) (by kernel_rfl) (fun _ _ _ h => h) (Or.inl ⟨by rfl, ?y5⟩) (by assumption) ?r5
        case y5 => (intro w hSw; (try dsimp only at hSw); (try (go_split_ands)); go_simp; try with_reducible rfl)
        try simp only [Act.put, List.setIfInBounds_toArray, List.set_cons_zero, List.set_cons_succ]
        refine wpAnyH_take (i := 6) (oi := { dst := some 33, op := Op.fieldAddr 32 (Operand.tmp 7) 0, type := 0, pos := "role.go:75", after := #[], guard := none }) (v := ?v6) rfl (by kernel_rfl) (by kernel_rfl) (by kernel_rfl) (fun _ _ _ h => h) (Or.inl ⟨by rfl, ?y6⟩) (by assumption) ?r6
        case y6 => (intro w hSw; (try dsimp only at hSw); (try (go_split_ands)); go_simp; try with_reducible rfl)
        try simp only [Act.put, List.setIfInBounds_toArray, List.set_cons_zero, List.set_cons_succ]
        refine wpAnyH_take (i := 7) (oi := { dst := some 34, op := Op.load 3 (Operand.tmp 33), type := 3, pos := "role.go:75", after := #[{ on := 6, ground := Ground.data }], guard := none }) (v := ?v7) rfl (by kernel_rfl) (by kernel_rfl) (by kernel_rfl) (fun _ _ _ h => h) (Or.inl ⟨by rfl, ?y7⟩) (by assumption) ?r7
        case y7 => (intro w hSw; (try dsimp only at hSw); (try (go_split_ands)); go_simp; try with_reducible rfl)
        try simp only [Act.put, List.setIfInBounds_toArray, List.set_cons_zero, List.set_cons_succ]
        refine wpAnyH_ready (rs := [4, 9]) (by kernel_rfl) (by simp) ?_
        refine AllReadyH.cons (o := { dst := some 31, op := Op.call { callee := Callee.value (Operand.func 68), args := #[Operand.tmp 28, Operand.tmp 30], argTypes := #[30, 22] }, type := 30, pos := "role.go:75", after := #[{ on := 1, ground := Ground.data }, { on := 3, ground := Ground.data }], guard := none }) rfl (fun K hK => ?_) (AllReadyH.cons (o := { dst := some 8, op := Op.alloc 92, type := 0, pos := "role.go:75", after := #[], guard := none }) rfl (fun K hK => ?_) AllReadyH.nil)
        · go_simp
          refine (hO.out _).mono ?_
          rintro e w2 ⟨rfl, hb2⟩
          have hb3 : Below wp.heap.size wp w2 := (below_drewN (Below.refl _ _) 1).later hb2
          have hP3 := hP1.out.below hb3
          go_wp2_with fail
          refine hK.out _ _ ?_ (fun hHeld4 => ?_)
          · exact ⟨hb3, hP3.c0, hP3.c1, hP3.c4, hP3.c5, hP3.c6, hP3.c7⟩
          clear hK K
          try simp only [Act.put, List.setIfInBounds_toArray, List.set_cons_zero, List.set_cons_succ]
          refine wpAnyH_take (i := 8) (oi := { dst := some 35, op := Op.build 92 #[(0, Operand.tmp 31), (1, Operand.tmp 32), (2, Operand.tmp 34)], type := 92, pos := "role.go:75", after := #[{ on := 4, ground := Ground.data }, { on := 5, ground := Ground.data }, { on := 7, ground := Ground.data }], guard := none }) (v := ?v8) rfl (by kernel_rfl) (by kernel_rfl) (by kernel_rfl) (fun _ _ _ h => h) (Or.inl ⟨by rfl, ?y8⟩) (by assumption) ?r8
          case y8 => (intro w hSw; (try dsimp only at hSw); (try (go_split_ands)); go_simp; try with_reducible rfl)
          try simp only [Act.put, List.setIfInBounds_toArray, List.set_cons_zero, List.set_cons_succ]
          refine wpAnyH_ready (rs := [9]) (by kernel_rfl) (by simp) ?_
          refine AllReadyH.cons (o := { dst := some 8, op := Op.alloc 92, type := 0, pos := "role.go:75", after := #[], guard := none }) rfl (fun K hK => ?_) AllReadyH.nil
          go_simp
          have hb4 : Below wp.heap.size wp (w2.alloc (.cells (Wy.row ⟨Vc.zero, 0, 0⟩) 92)) := hb3.later (below1 w2 _)
          have hP4 := hP1.out.below hb4
          have hN4 := heap_alloc_new w2 (.cells (Wy.row ⟨Vc.zero, 0, 0⟩) 92)
          have hle4 : wp.heap.size ≤ w2.heap.size := hb3.size
          refine hK.out _ _ ⟨hb4, hP4.c0, hP4.c1, hP4.c4, hP4.c5, hP4.c6, hP4.c7⟩ (fun hHeld9 => ?_)
          clear hK K
          try simp only [Act.put, List.setIfInBounds_toArray, List.set_cons_zero, List.set_cons_succ]
          generalize w2.alloc (.cells (Wy.row ⟨Vc.zero, 0, 0⟩) 92) = w4 at *
          generalize w2.heap.size = wb at *
          refine wpAnyH_ready (rs := [10]) (by kernel_rfl) (by simp) ?_
          refine AllReadyH.cons (o := { dst := none, op := Op.store 92 (Operand.tmp 8) (Operand.tmp 35), type := 0, pos := "role.go:75", after := #[{ on := 9, ground := Ground.data }, { on := 8, ground := Ground.data }, { on := 4, ground := Ground.chain }, { on := 0, ground := Ground.phase }, { on := 1, ground := Ground.phase }, { on := 2, ground := Ground.phase }, { on := 3, ground := Ground.phase }, { on := 4, ground := Ground.phase }, { on := 5, ground := Ground.phase }, { on := 6, ground := Ground.phase }, { on := 7, ground := Ground.phase }, { on := 8, ground := Ground.phase }, { on := 9, ground := Ground.phase }], guard := none }) rfl (fun K hK => ?_) AllReadyH.nil
          refine step_store_row rfl 92 (.tmp 8) (.tmp 35) rfl wb (Wy.row ⟨⟨a0, ov, a2, a3⟩, j, id⟩) rfl rfl 92 _ hN4 (waySize ⟨Vc.zero, 0, 0⟩) rfl (Wy.row_all _) ?_
          have hb5 : Below wp.heap.size wp (w4.setRow wb (Wy.row ⟨⟨a0, ov, a2, a3⟩, j, id⟩)) := below_setRow hb4 hle4 _
          have hP5 := hP1.out.below hb5
          have hN5 := setRow_heap w4 wb _ (Wy.row ⟨⟨a0, ov, a2, a3⟩, j, id⟩) 92 _ hN4
          refine hK.out _ _ ⟨hb5, hP5.c0, hP5.c1, hP5.c4, hP5.c5, hP5.c6, hP5.c7⟩ (fun hHeld10 => ?_)
          clear hK K
          try simp only [Act.put]
          generalize w4.setRow wb (Wy.row ⟨⟨a0, ov, a2, a3⟩, j, id⟩) = w5 at *
          refine wpAnyH_done (by kernel_rfl) ?_ _
          refine NoPanic.normal ?_
          clear hP5 hP4 hP3 hHeld10 hHeld9 hHeld4 hHeld hb4 hb3 hb2 hN4
          clear w2 w4
          revert wb w5
          exact key
        · go_simp
          have hb4 : Below wp.heap.size wp (wp.alloc (.cells (Wy.row ⟨Vc.zero, 0, 0⟩) 92)).drew := below_drewN (below1 wp _) 1
          have hP4 := hP1.out.below hb4
          have hN4 : (wp.alloc (.cells (Wy.row ⟨Vc.zero, 0, 0⟩) 92)).drew.heap[wp.heap.size]? = some (.cells (Wy.row ⟨Vc.zero, 0, 0⟩) 92) := heap_alloc_new wp (.cells (Wy.row ⟨Vc.zero, 0, 0⟩) 92)
          have hle4 : wp.heap.size ≤ wp.heap.size := Nat.le_refl _
          refine hK.out _ _ ⟨hb4, hP4.c0, hP4.c1, hP4.c4, hP4.c5, hP4.c6, hP4.c7⟩ (fun hHeld9 => ?_)
          clear hK K
          try simp only [Act.put, List.setIfInBounds_toArray, List.set_cons_zero, List.set_cons_succ]
          generalize (wp.alloc (.cells (Wy.row ⟨Vc.zero, 0, 0⟩) 92)).drew = w4 at *
          refine wpAnyH_ready (rs := [4]) (by kernel_rfl) (by simp) ?_
          refine AllReadyH.cons (o := { dst := some 31, op := Op.call { callee := Callee.value (Operand.func 68), args := #[Operand.tmp 28, Operand.tmp 30], argTypes := #[30, 22] }, type := 30, pos := "role.go:75", after := #[{ on := 1, ground := Ground.data }, { on := 3, ground := Ground.data }], guard := none }) rfl (fun K hK => ?_) AllReadyH.nil
          go_simp
          refine (hO.out _).mono ?_
          rintro e w2 ⟨rfl, hb2⟩
          have hb3 : Below wp.heap.size wp w2 := hb4.later hb2
          have hP3 := hP1.out.below hb3
          have hN3 := heap_kept hb2 hN4
          go_wp2_with fail
          refine hK.out _ _ ?_ (fun hHeld4 => ?_)
          · exact ⟨hb3, hP3.c0, hP3.c1, hP3.c4, hP3.c5, hP3.c6, hP3.c7⟩
          clear hK K
          try simp only [Act.put, List.setIfInBounds_toArray, List.set_cons_zero, List.set_cons_succ]
          refine wpAnyH_take (i := 8) (oi := { dst := some 35, op := Op.build 92 #[(0, Operand.tmp 31), (1, Operand.tmp 32), (2, Operand.tmp 34)], type := 92, pos := "role.go:75", after := #[{ on := 4, ground := Ground.data }, { on := 5, ground := Ground.data }, { on := 7, ground := Ground.data }], guard := none }) (v := ?v9) rfl (by kernel_rfl) (by kernel_rfl) (by kernel_rfl) (fun _ _ _ h => h) (Or.inl ⟨by rfl, ?y9⟩) (by assumption) ?r9
          case y9 => (intro w hSw; (try dsimp only at hSw); (try (go_split_ands)); go_simp; try with_reducible rfl)
          try simp only [Act.put, List.setIfInBounds_toArray, List.set_cons_zero, List.set_cons_succ]
          refine wpAnyH_ready (rs := [10]) (by kernel_rfl) (by simp) ?_
          refine AllReadyH.cons (o := { dst := none, op := Op.store 92 (Operand.tmp 8) (Operand.tmp 35), type := 0, pos := "role.go:75", after := #[{ on := 9, ground := Ground.data }, { on := 8, ground := Ground.data }, { on := 4, ground := Ground.chain }, { on := 0, ground := Ground.phase }, { on := 1, ground := Ground.phase }, { on := 2, ground := Ground.phase }, { on := 3, ground := Ground.phase }, { on := 4, ground := Ground.phase }, { on := 5, ground := Ground.phase }, { on := 6, ground := Ground.phase }, { on := 7, ground := Ground.phase }, { on := 8, ground := Ground.phase }, { on := 9, ground := Ground.phase }], guard := none }) rfl (fun K hK => ?_) AllReadyH.nil
          refine step_store_row rfl 92 (.tmp 8) (.tmp 35) rfl wp.heap.size (Wy.row ⟨⟨a0, ov, a2, a3⟩, j, id⟩) rfl rfl 92 _ hN3 (waySize ⟨Vc.zero, 0, 0⟩) rfl (Wy.row_all _) ?_
          have hb5 : Below wp.heap.size wp (w2.setRow wp.heap.size (Wy.row ⟨⟨a0, ov, a2, a3⟩, j, id⟩)) := below_setRow hb3 hle4 _
          have hP5 := hP1.out.below hb5
          have hN5 := setRow_heap w2 wp.heap.size _ (Wy.row ⟨⟨a0, ov, a2, a3⟩, j, id⟩) 92 _ hN3
          refine hK.out _ _ ⟨hb5, hP5.c0, hP5.c1, hP5.c4, hP5.c5, hP5.c6, hP5.c7⟩ (fun hHeld10 => ?_)
          clear hK K
          try simp only [Act.put]
          generalize w2.setRow wp.heap.size (Wy.row ⟨⟨a0, ov, a2, a3⟩, j, id⟩) = w5 at *
          refine wpAnyH_done (by kernel_rfl) ?_ _
          refine NoPanic.normal ?_
          exact key wp.heap.size hle4 w5 hb5 hN5
      case kp =>
        intro wb hle w5 hb5 hN5
        have hqp : q < wp.heap.size := (Array.getElem?_eq_some_iff.1 hQ1.out).1
        have hwp := hB1.out.size
        have hB5 := hide (hB1.out.later hb5)
        have hQ5 := hide (heap_kept hb5 hQ1.out)
        have hZ5 := hide (heap_kept hb5 hZ1.out)
        clear hB1 hQ1 hZ1 hb5 hO hB hZ hQ hP1 c0 c1 c2 c3 c4 c5 c6 c7 hsz hwf
        have hNh := hide hN5
        clear hN5
        go_wp2_with (first | ((with_reducible change wpList _ _ _ _ _ _); refine wpList_load_row rfl 92 (.tmp 8) rfl wb rfl 92 _ _ _ hNh.out Try.underlying92 rfl (waySize ⟨Vc.zero, 0, 0⟩) ?_))
        refine (hL.out _).mono ?_
        rintro e w6 ⟨rfl, hb6⟩
        have hB6 := hide (hB5.out.later hb6)
        have hQ6 := hide (heap_kept hb6 hQ5.out)
        have hZ6 := hide (heap_kept hb6 hZ5.out)
        have hN6 := hide (heap_kept hb6 hNh.out)
        clear hB5 hQ5 hZ5 hNh hb6
        cases lB
        · have hE : Hid (bestW b ps (j + 1) = Y) := hS1.out.trans (if_neg (by simp))
          rw [← hE.out] at hQ6
          go_wp2
          go_round
          case rel => exact ⟨j + 1, by omega, by go_num, hB6, hZ6, hQ6⟩
          case measure => simp [intOf]; omega
        go_wp2_with (first | ((with_reducible change wpList _ _ _ _ _ _); refine wpList_load_row_on rfl 92 (.tmp 8) rfl wb rfl 92 _ _ _ hN6.out Try.underlying92 rfl (waySize ⟨Vc.zero, 0, 0⟩) ?_) | ((with_reducible change wpList _ _ _ _ _ _); refine wpList_load_row_on rfl 92 (.tmp 5) rfl q rfl 92 _ _ _ hQ6.out Try.underlying92 rfl (waySize ⟨Vc.zero, 0, 0⟩) ?_))
        refine (hF.out _).mono ?_
        rintro e w7 ⟨rfl, hb7⟩
        have hB7 := hide (hB6.out.later hb7)
        have hQ7 := hide (heap_kept hb7 hQ6.out)
        have hZ7 := hide (heap_kept hb7 hZ6.out)
        have hN7 := hide (heap_kept hb7 hN6.out)
        clear hB6 hQ6 hZ6 hN6 hb7
        cases fB
        · have hE : Hid (bestW b ps (j + 1) = Y) := hS1.out.trans (if_neg (by simp))
          rw [← hE.out] at hQ7
          go_wp2
          go_round
          case rel => exact ⟨j + 1, by omega, by go_num, hB7, hZ7, hQ7⟩
          case measure => simp [intOf]; omega
        have hE : Hid (bestW b ps (j + 1) = ⟨⟨a0, ov, a2, a3⟩, j, id⟩) := hS1.out.trans (if_pos (by simp))
        have hB8 := hide (below_setRow hB7.out (Nat.le_of_lt hqw) (Wy.row ⟨⟨a0, ov, a2, a3⟩, j, id⟩))
        have hQ8 := hide (setRow_heap w7 q _ (Wy.row ⟨⟨a0, ov, a2, a3⟩, j, id⟩) 92 _ hQ7.out)
        have hZ8 := hide ((Go.setRow_other w7 q w.heap.size (Wy.row ⟨⟨a0, ov, a2, a3⟩, j, id⟩) (by omega)).trans hZ7.out)
        go_wp2_with (first | ((with_reducible change wpList _ _ _ _ _ _); refine wpList_load_row rfl 92 (.tmp 8) rfl wb rfl 92 _ _ _ hN7.out Try.underlying92 rfl (waySize ⟨Vc.zero, 0, 0⟩) ?_) | ((with_reducible change wpList _ _ _ _ _ _); refine wpList_store_row rfl 92 (.tmp 5) (.tmp 44) rfl q (Wy.row ⟨⟨a0, ov, a2, a3⟩, j, id⟩) rfl rfl 92 _ hQ7.out (waySize ⟨Vc.zero, 0, 0⟩) rfl (Wy.row_all _) ?_))
        go_round
        case rel => exact ⟨j + 1, by omega, by go_num, hB8, hZ8, by rw [hE.out]; exact hQ8⟩
        case measure => simp [intOf]; omega
    · obtain rfl : j = n := by omega
      generalize hYE : bestW b ps j = Y at *
      obtain ⟨⟨y0, y1, y2, y3⟩, y4, y5⟩ := Y
      replace hYE := hide hYE
      have hz := hZ.out
      have hy := hQ.out
      clear hZ hQ
      have hne : (w.heap.size == q) = false := by rw [beq_eq_false_iff_ne]; omega
      have hBr := hide (below_setRow hB.out (Nat.le_refl _) (Wy.row ⟨⟨y0, y1, y2, y3⟩, y4, y5⟩))
      have hzr := hide (setRow_heap wr w.heap.size _ (Wy.row ⟨⟨y0, y1, y2, y3⟩, y4, y5⟩) 92 _ hz)
      go_wp2_with (first | ((with_reducible change wpList _ _ _ _ _ _); refine wpList_load_row rfl 92 (.tmp 5) rfl q rfl 92 _ _ _ hy Try.underlying92 rfl (waySize ⟨Vc.zero, 0, 0⟩) ?_) | ((with_reducible change wpList _ _ _ _ _ _); refine wpList_store_row rfl 92 (.tmp 4) (.tmp 46) rfl w.heap.size (Wy.row ⟨⟨y0, y1, y2, y3⟩, y4, y5⟩) rfl rfl 92 _ hz (waySize ⟨Vc.zero, 0, 0⟩) rfl (Wy.row_all _) ?_))
      exact bodyPost_ret (results_cell_row rfl _ _ w.heap.size 92 _ _ _ rfl hzr.out Try.underlying92 rfl (waySize ⟨Vc.zero, 0, 0⟩)) rfl ⟨by rw [hYE.out], hBr.out⟩
theorem roleOf_any (p : Rp) (r : Bool) (t : Vc) (w : World) : Calls Try.prog 56 #[.agg p.row, .bool r, .agg t.row] w fun e w' => e = .returned (.int .i64 (roleN p r t)) ∧ Below w.heap.size w w' := by
  have hP : Hid (roleN p r t = if p.up = false then 0 else if r = true then 1 else if p.has = false ∨ betB p.told t = false then 2 else if p.told.bridge = t.bridge then 4 else 3) := rfl
  generalize roleN p r t = x at *
  obtain ⟨id, cost, up, has, ⟨a0, a1, a2, a3⟩⟩ := p
  obtain ⟨b0, b1, b2, b3⟩ := t
  have hC := hide (fun w => Better_any ⟨a0, a1, a2, a3⟩ ⟨b0, b1, b2, b3⟩ w)
  dsimp only at *
  generalize betB ⟨a0, a1, a2, a3⟩ ⟨b0, b1, b2, b3⟩ = y at *
  have hA := heap_alloc2_oldB w (.cells (Rp.row ⟨id, cost, up, has, ⟨a0, a1, a2, a3⟩⟩) 32) (.cells (Vc.row ⟨b0, b1, b2, b3⟩) 30)
  have hB := heap_alloc2_newB w (.cells (Rp.row ⟨id, cost, up, has, ⟨a0, a1, a2, a3⟩⟩) 32) (.cells (Vc.row ⟨b0, b1, b2, b3⟩) 30)
  have hb0 : Below w.heap.size w ((w.alloc (.cells (Rp.row ⟨id, cost, up, has, ⟨a0, a1, a2, a3⟩⟩) 32)).alloc (.cells (Vc.row ⟨b0, b1, b2, b3⟩) 30)) := (below1 _ _).later (below1 _ _)
  go_enter Try.func56, Try.ntmps56
  cases up
  · go_wp2
    go_ret
    exact ⟨ret_i64 (by rw [hP.out]; rfl), hb0⟩
  cases r
  rotate_left
  · go_wp2
    go_ret
    exact ⟨ret_i64 (by rw [hP.out]; rfl), hb0⟩
  cases has
  · go_wp2
    go_ret
    exact ⟨ret_i64 (by rw [hP.out]; simp), hb0⟩
  go_wp2_with fail
  refine (hC.out _).mono ?_
  rintro e w2 ⟨rfl, hb2⟩
  have hA2 := heap_kept hb2 hA
  have hB2 := heap_kept hb2 hB
  have hb := hide (hb0.later hb2)
  clear hA hB hb0 hb2 hC
  have c6 : w2.cell? ⟨w.heap.size, 6, none⟩ = some (.int .u64 a2) := (cell_of_row _ _ _ _ _ _ hA2).trans rfl
  have d2 : w2.cell? ⟨w.heap.size + 1, 2, none⟩ = some (.int .u64 b2) := (cell_of_row _ _ _ _ _ _ hB2).trans rfl
  clear hA2 hB2
  cases y
  · go_wp2
    go_ret
    exact ⟨ret_i64 (by rw [hP.out]; simp), hb.out⟩
  by_cases h1 : a2 = b2
  · subst h1
    go_wp2
    go_ret
    exact ⟨ret_i64 (by rw [hP.out]; simp), hb.out⟩
  · have hne : (a2 == b2) = false := by rw [beq_eq_false_iff_ne]; exact h1
    go_wp2
    go_ret
    exact ⟨ret_i64 (by rw [hP.out]; simp [h1]), hb.out⟩
end Go.Proofs.Ytoejoneecanbbaa
