
/-
  The contract of role.Select. Conditions: those that each theorem names.
-/
import Derived.Test.YtoejoneecanbbaaRole1
import Derived.Test.YtoejoneecanbbaaFlt
namespace Go.Proofs.Ytoejoneecanbbaa
open Go.RowKit
set_option linter.unusedVariables false
set_option maxRecDepth 20000

@[reducible] def fI (n : Int) : List Value := [.int .i64 n]
@[reducible] def fV (v : Vc) : List Value := [.int .u64 v.root, .int .u64 v.cost, .int .u64 v.bridge, .int .i64 v.port]
theorem wide_I : Wide fI 1 := ⟨fun _ => rfl, fun x u hu => by simp at hu; rw [hu]; rfl⟩
theorem wide_V : Wide fV 4 := ⟨fun _ => rfl, fun x u hu => by simp at hu; rcases hu with rfl | rfl | rfl | rfl <;> rfl⟩
theorem Try.infoI : (Try.prog.info? 3).map (fun i => (i.zero, i.size, i.bytes)) = some (some (.int .i64 0), 1, 8) := by kernel_rfl
theorem Try.infoV : (Try.prog.info? 30).map (fun i => (i.zero, i.size, i.bytes)) = some (some (.agg Vc.zero.row), 4, 32) := by kernel_rfl
theorem make_I (w : World) (n : Nat) (hn : n ≤ 100000) : (Instr.makeSlice 26 (.int .i64 n) (.int .i64 n)).run Try.prog w = .ok (.slice (some ⟨w.heap.size, 0, none⟩) n n) (w.alloc (.cells (flat fI (List.replicate n 0)).toArray 3)) := by
  obtain ⟨i0, hi, hz0, hz1, hz2⟩ := info_parts Try.infoI
  have hr := run_make (P := Try.prog) w 26 3 i0 _ Try.underlying26 hi hz0 .i64 .i64 n n (by omega) (by omega) (by rw [hz2]; omega) (by omega)
  rw [hz1] at hr
  have hm := made_flat wide_I 0 (by omega) n
  rw [← hm]
  simpa only [Int.toNat_natCast, Value.cells] using hr
theorem make_V (w : World) (n : Nat) (hn : n ≤ 100000) : (Instr.makeSlice 62 (.int .i64 n) (.int .i64 n)).run Try.prog w = .ok (.slice (some ⟨w.heap.size, 0, none⟩) n n) (w.alloc (.cells (flat fV (List.replicate n Vc.zero)).toArray 30)) := by
  obtain ⟨i0, hi, hz0, hz1, hz2⟩ := info_parts Try.infoV
  have hr := run_make (P := Try.prog) w 62 30 i0 _ Try.underlying62 hi hz0 .i64 .i64 n n (by omega) (by omega) (by rw [hz2]; omega) (by omega)
  rw [hz1] at hr
  have hm := made_flat wide_V Vc.zero (by omega) n
  rw [← hm]
  simpa only [Int.toNat_natCast, Value.cells] using hr
@[reducible] def rolesRow (v : Vc) (p : Int) (x y : Value) : Array Value := #[.int .u64 v.root, .int .u64 v.cost, .int .u64 v.bridge, .int .i64 v.port, .int .i64 p, x, y]
theorem alloc_R (w : World) : (Instr.alloc 64 true (.tuple #[])).run Try.prog w = .ok (.pointer (some ⟨w.heap.size, 0, none⟩)) (w.alloc (.cells (rolesRow Vc.zero 0 (.slice none 0 0) (.slice none 0 0)) 64)) := by
  rfl
theorem rolesSize (v : Vc) (p : Int) (x y : Value) : (Try.prog.info? 64).map (·.size) = some (rolesRow v p x y).size := by kernel_rfl
/-- What a port tells, and its role, once the best way is known. -/
def tellV (b : Int) (y : Wy) (p : Rp) : Vc := ⟨y.v.root, y.v.cost, b, p.id⟩
def roleV (b : Int) (y : Wy) (i : Nat) (p : Rp) : Int := roleN p (decide ((i : Int) = y.place)) (tellV b y p)
def tellsTo (b : Int) (y : Wy) (ps : List Rp) (j : Nat) : List Vc := (List.range ps.length).map fun i => if i < j then tellV b y (ps.getD i Rp.zero) else Vc.zero
def rolesTo (b : Int) (y : Wy) (ps : List Rp) (j : Nat) : List Int := (List.range ps.length).map fun i => if i < j then roleV b y i (ps.getD i Rp.zero) else 0
theorem map_range_set {α : Type} (n j : Nat) (g : Nat → α) (z : α) (hj : j < n) : ((List.range n).map fun i => if i < j then g i else z).set j (g j) = (List.range n).map fun i => if i < j + 1 then g i else z := by
  apply List.ext_getElem
  · simp
  · intro i h1 h2
    simp only [List.getElem_set, List.getElem_map, List.getElem_range]
    by_cases e : j = i
    · subst e; simp
    · rw [if_neg e]
      by_cases h : i < j
      · rw [if_pos h, if_pos (by omega)]
      · rw [if_neg h, if_neg (by omega)]
theorem map_range_zero {α : Type} (n : Nat) (g : Nat → α) (z : α) : ((List.range n).map fun i => if i < 0 then g i else z) = List.replicate n z := by
  apply List.ext_getElem
  · simp
  · intro i h1 h2
    simp
/-- The roles and what is told, of all ports. -/
def rolesL (b : Int) (ps : List Rp) : List Int := rolesTo b (bestW b ps ps.length) ps ps.length
def tellsL (b : Int) (ps : List Rp) : List Vc := tellsTo b (bestW b ps ps.length) ps ps.length
--CUT
set_option maxHeartbeats 4000000 in
theorem Select_any (b : Int) (a : Option Addr) (n cap : Nat) (ps : List Rp) (w : World) (hn : n ≤ 100000) (hI : Hid (Rps w a n ps)) :
    Calls Try.prog 45 #[.int .u64 b, .slice a n cap] w fun r w' => ∃ ib vb, r = .returned (.agg (rolesRow (bestW b ps n).v (bestW b ps n).place (.slice (some ⟨ib, 0, none⟩) n n) (.slice (some ⟨vb, 0, none⟩) n n))) ∧ Below w.heap.size w w' ∧
      w.heap.size ≤ ib ∧ w.heap.size ≤ vb ∧ ib ≠ vb ∧ Fl w' ib 3 fI (rolesL b ps) [] ∧ Fl w' vb 30 fV (tellsL b ps) [] := by
  have hps := hI.out.1
  go_enter Try.func45, Try.ntmps45
  go_wp2_with fail
  refine (bestWay_any b a n cap ps _ hn (hide (hI.out.below (below1 _ _)))).mono ?_
  rintro e w1 ⟨rfl, hb1⟩
  have hR := heap_kept hb1 (heap_alloc_new w (.cells (rolesRow Vc.zero 0 (.slice none 0 0) (.slice none 0 0)) 64))
  have hB1 := hide ((below1 w _).later hb1)
  clear hb1
  have hrl : Hid (rolesL b ps = rolesTo b (bestW b ps n) ps n) := by unfold rolesL; rw [hps]; exact rfl
  have htl : Hid (tellsL b ps = tellsTo b (bestW b ps n) ps n) := by unfold tellsL; rw [hps]; exact rfl
  generalize hYE : bestW b ps n = Y at *
  replace hYE := hide hYE
  go_wp2_with fail
  have hQ := hide (heap_alloc_new w1 (.cells Y.row 92))
  have hR2 := hide (heap_kept (below1 w1 (.cells Y.row 92)) hR)
  have hB2 := hide (hB1.out.later (below1 w1 (.cells Y.row 92)))
  have hqw : w.heap.size < w1.heap.size := (Array.getElem?_eq_some_iff.1 hR).1
  clear hR hB1
  generalize w1.alloc (.cells Y.row 92) = w2 at *
  generalize w1.heap.size = q at *
  have hYc : Hid (∀ W : World, W.heap[q]? = some (.cells Y.row 92) → W.cell? ⟨q, 0, none⟩ = some (.int .u64 Y.v.root) ∧ W.cell? ⟨q, 1, none⟩ = some (.int .u64 Y.v.cost) ∧ W.cell? ⟨q, 2, none⟩ = some (.int .u64 Y.v.bridge) ∧ W.cell? ⟨q, 3, none⟩ = some (.int .i64 Y.v.port) ∧ W.cell? ⟨q, 4, none⟩ = some (.int .i64 Y.place)) := fun W h =>
    ⟨(cell_of_row _ _ _ _ _ _ h).trans rfl, (cell_of_row _ _ _ _ _ _ h).trans rfl, (cell_of_row _ _ _ _ _ _ h).trans rfl, (cell_of_row _ _ _ _ _ _ h).trans rfl, (cell_of_row _ _ _ _ _ _ h).trans rfl⟩
  refine (fun (key : (?T : Prop)) => ?main) ?kp
  case main =>
    refine wp_region_noPanic ?_
    refine wp_region_held_drew (S := fun W => Below w2.heap.size w2 W ∧ W.cell? ⟨q, 0, none⟩ = some (.int .u64 Y.v.root) ∧ W.cell? ⟨q, 1, none⟩ = some (.int .u64 Y.v.cost) ∧ W.cell? ⟨q, 2, none⟩ = some (.int .u64 Y.v.bridge) ∧ W.cell? ⟨q, 3, none⟩ = some (.int .i64 Y.v.port) ∧ W.cell? ⟨q, 4, none⟩ = some (.int .i64 Y.place)) (by kernel_rfl) ⟨below_drewN (Below.refl _ _) 1, hYc.out _ hQ.out⟩ (fun hHeld => ?_)
    have hb : Below w2.heap.size w2 w2.drew := below_drewN (Below.refl _ _) 1
    refine wpAnyH_take (i := 0) (oi := { dst := some 12, op := Op.fieldAddr 92 (Operand.tmp 5) 0, type := 0, pos := "role.go:55", after := #[], guard := none }) (v := ?v1) rfl (by kernel_rfl) (by kernel_rfl) (by kernel_rfl) (fun _ _ _ h => h) (Or.inl ⟨by rfl, ?y1⟩) (by assumption) ?r1
    case y1 => (intro w hSw; (try dsimp only at hSw); (try (go_split_ands)); go_simp; try with_reducible rfl)
    try simp only [Act.put, List.setIfInBounds_toArray, List.set_cons_zero, List.set_cons_succ]
    refine wpAnyH_take (i := 1) (oi := { dst := some 13, op := Op.load 30 (Operand.tmp 12), type := 30, pos := "role.go:55", after := #[{ on := 0, ground := Ground.data }], guard := none }) (v := ?v2) rfl (by kernel_rfl) (by kernel_rfl) (by kernel_rfl) (fun _ _ _ h => h) (Or.inl ⟨by rfl, ?y2⟩) (by assumption) ?r2
    case y2 => (intro w hSw; (try dsimp only at hSw); (try (go_split_ands)); go_simp; try with_reducible rfl)
    try simp only [Act.put, List.setIfInBounds_toArray, List.set_cons_zero, List.set_cons_succ]
    refine wpAnyH_take (i := 2) (oi := { dst := some 14, op := Op.fieldAddr 92 (Operand.tmp 5) 1, type := 0, pos := "role.go:55", after := #[], guard := none }) (v := ?v3) rfl (by kernel_rfl) (by kernel_rfl) (by kernel_rfl) (fun _ _ _ h => h) (Or.inl ⟨by rfl, ?y3⟩) (by assumption) ?r3
    case y3 => (intro w hSw; (try dsimp only at hSw); (try (go_split_ands)); go_simp; try with_reducible rfl)
    try simp only [Act.put, List.setIfInBounds_toArray, List.set_cons_zero, List.set_cons_succ]
    refine wpAnyH_take (i := 3) (oi := { dst := some 15, op := Op.load 3 (Operand.tmp 14), type := 3, pos := "role.go:55", after := #[{ on := 2, ground := Ground.data }], guard := none }) (v := ?v4) rfl (by kernel_rfl) (by kernel_rfl) (by kernel_rfl) (fun _ _ _ h => h) (Or.inl ⟨by rfl, ?y4⟩) (by assumption) ?r4
    case y4 => (intro w hSw; (try dsimp only at hSw); (try (go_split_ands)); go_simp; try with_reducible rfl)
    try simp only [Act.put, List.setIfInBounds_toArray, List.set_cons_zero, List.set_cons_succ]
    refine wpAnyH_take (i := 4) (oi := { dst := some 16, op := Op.move (Operand.tmp 1), type := 82, pos := "role.go:55", after := #[], guard := none }) (v := ?v5) rfl (by kernel_rfl) (by kernel_rfl) (by kernel_rfl) (fun _ _ _ h => h) (Or.inl ⟨by rfl, ?y5⟩) (by assumption) ?r5
    case y5 => (intro w hSw; (try dsimp only at hSw); (try (go_split_ands)); go_simp; try with_reducible rfl)
    try simp only [Act.put, List.setIfInBounds_toArray, List.set_cons_zero, List.set_cons_succ]
    refine wpAnyH_take (i := 5) (oi := { dst := some 17, op := Op.call { callee := Callee.builtin Builtin.len, args := #[Operand.tmp 16], argTypes := #[82] }, type := 3, pos := "role.go:55", after := #[{ on := 4, ground := Ground.data }], guard := none }) (v := ?v6) rfl (by kernel_rfl) (by kernel_rfl) (by kernel_rfl) (fun _ _ _ h => h) (Or.inl ⟨by rfl, ?y6⟩) (by assumption) ?r6
    case y6 => (intro w hSw; (try dsimp only at hSw); (try (go_split_ands)); go_simp; try with_reducible rfl)
    try simp only [Act.put, List.setIfInBounds_toArray, List.set_cons_zero, List.set_cons_succ]
    refine wpAnyH_take (i := 7) (oi := { dst := some 19, op := Op.move (Operand.tmp 1), type := 82, pos := "role.go:55", after := #[], guard := none }) (v := ?v7) rfl (by kernel_rfl) (by kernel_rfl) (by kernel_rfl) (fun _ _ _ h => h) (Or.inl ⟨by rfl, ?y7⟩) (by assumption) ?r7
    case y7 => (intro w hSw; (try dsimp only at hSw); (try (go_split_ands)); go_simp; try with_reducible rfl)
    try simp only [Act.put, List.setIfInBounds_toArray, List.set_cons_zero, List.set_cons_succ]
    refine wpAnyH_take (i := 8) (oi := { dst := some 20, op := Op.call { callee := Callee.builtin Builtin.len, args := #[Operand.tmp 19], argTypes := #[82] }, type := 3, pos := "role.go:55", after := #[{ on := 7, ground := Ground.data }], guard := none }) (v := ?v8) rfl (by kernel_rfl) (by kernel_rfl) (by kernel_rfl) (fun _ _ _ h => h) (Or.inl ⟨by rfl, ?y8⟩) (by assumption) ?r8
    case y8 => (intro w hSw; (try dsimp only at hSw); (try (go_split_ands)); go_simp; try with_reducible rfl)
    try simp only [Act.put, List.setIfInBounds_toArray, List.set_cons_zero, List.set_cons_succ]
    generalize w2.drew = u0 at *
    refine wpAnyH_ready (rs := [6, 9, 11]) (by kernel_rfl) (by simp) ?_
    refine AllReadyH.cons (o := { dst := some 18, op := Op.makeSlice 26 (Operand.tmp 17) (Operand.tmp 17), type := 26, pos := "role.go:55", after := #[{ on := 5, ground := Ground.data }, { on := 5, ground := Ground.data }], guard := none }) rfl (fun K hK => ?_) (AllReadyH.cons (o := { dst := some 21, op := Op.makeSlice 62 (Operand.tmp 20) (Operand.tmp 20), type := 62, pos := "role.go:55", after := #[{ on := 8, ground := Ground.data }, { on := 8, ground := Ground.data }], guard := none }) rfl (fun K hK => ?_) (AllReadyH.cons (o := { dst := some 6, op := Op.alloc 64, type := 0, pos := "role.go:55", after := #[], guard := none }) rfl (fun K hK => ?_) (AllReadyH.nil)))
    ·
      refine step_make rfl 26 (.tmp 17) (.tmp 17) rfl n _ rfl rfl (make_I _ n hn) ?_
      have Lib : w2.heap.size ≤ u0.heap.size := hb.size
      have Fib := Fl.new u0 3 fI (List.replicate n 0)
      have hbn : Below w2.heap.size w2 (u0.alloc (.cells (flat fI (List.replicate n 0)).toArray 3)) := hb.later (below1 u0 _)
      replace hb := hbn
      clear hbn
      refine hK.out _ _ ⟨hb, hYc.out _ (heap_kept hb hQ.out)⟩ (fun hHeld6 => ?_)
      clear hK K
      try simp only [Act.put, List.setIfInBounds_toArray, List.set_cons_zero, List.set_cons_succ]
      generalize u0.alloc (.cells (flat fI (List.replicate n 0)).toArray 3) = u1 at *
      generalize u0.heap.size = ib at *
      refine wpAnyH_ready (rs := [9, 11]) (by kernel_rfl) (by simp) ?_
      refine AllReadyH.cons (o := { dst := some 21, op := Op.makeSlice 62 (Operand.tmp 20) (Operand.tmp 20), type := 62, pos := "role.go:55", after := #[{ on := 8, ground := Ground.data }, { on := 8, ground := Ground.data }], guard := none }) rfl (fun K hK => ?_) (AllReadyH.cons (o := { dst := some 6, op := Op.alloc 64, type := 0, pos := "role.go:55", after := #[], guard := none }) rfl (fun K hK => ?_) (AllReadyH.nil))
      ·
        refine step_make rfl 62 (.tmp 20) (.tmp 20) rfl n _ rfl rfl (make_V _ n hn) ?_
        have Lvb : w2.heap.size ≤ u1.heap.size := hb.size
        have Nibvb : ib < u1.heap.size := Fib.lt
        replace Fib := Fib.below (below1 u1 (.cells (flat fV (List.replicate n Vc.zero)).toArray 30))
        have Fvb := Fl.new u1 30 fV (List.replicate n Vc.zero)
        have hbn : Below w2.heap.size w2 (u1.alloc (.cells (flat fV (List.replicate n Vc.zero)).toArray 30)) := hb.later (below1 u1 _)
        replace hb := hbn
        clear hbn
        refine hK.out _ _ ⟨hb, hYc.out _ (heap_kept hb hQ.out)⟩ (fun hHeld9 => ?_)
        clear hK K
        try simp only [Act.put, List.setIfInBounds_toArray, List.set_cons_zero, List.set_cons_succ]
        generalize u1.alloc (.cells (flat fV (List.replicate n Vc.zero)).toArray 30) = u2 at *
        generalize u1.heap.size = vb at *
        refine wpAnyH_take (i := 10) (oi := { dst := some 22, op := Op.build 64 #[(0, Operand.tmp 13), (1, Operand.tmp 15), (2, Operand.tmp 18), (3, Operand.tmp 21)], type := 64, pos := "role.go:55", after := #[{ on := 1, ground := Ground.data }, { on := 3, ground := Ground.data }, { on := 6, ground := Ground.data }, { on := 9, ground := Ground.data }], guard := none }) (v := ?v9) rfl (by kernel_rfl) (by kernel_rfl) (by kernel_rfl) (fun _ _ _ h => h) (Or.inl ⟨by rfl, ?y9⟩) (by assumption) ?r9
        case y9 => (intro w hSw; (try dsimp only at hSw); (try (go_split_ands)); go_simp; try with_reducible rfl)
        try simp only [Act.put, List.setIfInBounds_toArray, List.set_cons_zero, List.set_cons_succ]
        refine wpAnyH_ready (rs := [11]) (by kernel_rfl) (by simp) ?_
        refine AllReadyH.cons (o := { dst := some 6, op := Op.alloc 64, type := 0, pos := "role.go:55", after := #[], guard := none }) rfl (fun K hK => ?_) AllReadyH.nil
        refine step_alloc rfl 64 rfl _ (alloc_R _) ?_
        have Lrb : w2.heap.size ≤ u2.heap.size := hb.size
        have Nibrb : ib < u2.heap.size := Fib.lt
        replace Fib := Fib.below (below1 u2 (.cells (rolesRow Vc.zero 0 (.slice none 0 0) (.slice none 0 0)) 64))
        have Nvbrb : vb < u2.heap.size := Fvb.lt
        replace Fvb := Fvb.below (below1 u2 (.cells (rolesRow Vc.zero 0 (.slice none 0 0) (.slice none 0 0)) 64))
        have Frb := heap_alloc_new u2 (.cells (rolesRow Vc.zero 0 (.slice none 0 0) (.slice none 0 0)) 64)
        have hbn : Below w2.heap.size w2 (u2.alloc (.cells (rolesRow Vc.zero 0 (.slice none 0 0) (.slice none 0 0)) 64)) := hb.later (below1 u2 _)
        replace hb := hbn
        clear hbn
        refine hK.out _ _ ⟨hb, hYc.out _ (heap_kept hb hQ.out)⟩ (fun hHeld11 => ?_)
        clear hK K
        try simp only [Act.put, List.setIfInBounds_toArray, List.set_cons_zero, List.set_cons_succ]
        generalize u2.alloc (.cells (rolesRow Vc.zero 0 (.slice none 0 0) (.slice none 0 0)) 64) = u3 at *
        generalize u2.heap.size = rb at *
        refine wpAnyH_ready (rs := [12]) (by kernel_rfl) (by simp) ?_
        refine AllReadyH.cons (o := { dst := none, op := Op.store 64 (Operand.tmp 6) (Operand.tmp 22), type := 0, pos := "role.go:55", after := #[{ on := 11, ground := Ground.data }, { on := 10, ground := Ground.data }, { on := 0, ground := Ground.phase }, { on := 1, ground := Ground.phase }, { on := 2, ground := Ground.phase }, { on := 3, ground := Ground.phase }, { on := 4, ground := Ground.phase }, { on := 5, ground := Ground.phase }, { on := 6, ground := Ground.phase }, { on := 7, ground := Ground.phase }, { on := 8, ground := Ground.phase }, { on := 9, ground := Ground.phase }, { on := 10, ground := Ground.phase }, { on := 11, ground := Ground.phase }], guard := none }) rfl (fun K hK => ?_) AllReadyH.nil
        refine step_store_row rfl 64 (.tmp 6) (.tmp 22) rfl rb (rolesRow Y.v Y.place (.slice (some ⟨ib, 0, none⟩) n n) (.slice (some ⟨vb, 0, none⟩) n n)) rfl rfl 64 _ Frb (rolesSize Vc.zero 0 (.bool true) (.bool true)) rfl (by simp [Value.oneCell']) ?_
        have hbz : Below w2.heap.size w2 (u3.setRow rb (rolesRow Y.v Y.place (.slice (some ⟨ib, 0, none⟩) n n) (.slice (some ⟨vb, 0, none⟩) n n))) := below_setRow hb Lrb _
        have hYz := heap_kept hbz hQ.out
        have Fibz := Fib.blk (Go.setRow_other u3 rb ib (rolesRow Y.v Y.place (.slice (some ⟨ib, 0, none⟩) n n) (.slice (some ⟨vb, 0, none⟩) n n)) (by omega))
        have Fvbz := Fvb.blk (Go.setRow_other u3 rb vb (rolesRow Y.v Y.place (.slice (some ⟨ib, 0, none⟩) n n) (.slice (some ⟨vb, 0, none⟩) n n)) (by omega))
        have Frbz := setRow_heap u3 rb _ (rolesRow Y.v Y.place (.slice (some ⟨ib, 0, none⟩) n n) (.slice (some ⟨vb, 0, none⟩) n n)) 64 _ Frb
        refine hK.out _ _ ⟨hbz, hYc.out _ hYz⟩ (fun hHeld12 => ?_)
        clear hK K
        try simp only [Act.put]
        generalize u3.setRow rb (rolesRow Y.v Y.place (.slice (some ⟨ib, 0, none⟩) n n) (.slice (some ⟨vb, 0, none⟩) n n)) = wz at *
        refine wpAnyH_done (by kernel_rfl) ?_ _
        refine NoPanic.normal ?_
        have hne1 : ib ≠ vb := by omega
        have hne2 : ib ≠ rb := by omega
        have hne3 : vb ≠ rb := by omega
        clear hHeld12 hHeld11 hHeld9 hHeld6 hHeld hYz Fib Fvb Frb hb Nibvb Nibrb Nvbrb
        revert Frbz
        revert Fvbz
        revert Fibz
        revert hbz
        revert wz
        revert hne3
        revert hne2
        revert hne1
        revert Lrb
        revert Lvb
        revert Lib
        revert rb
        revert vb
        revert ib
        exact key
      ·
        refine step_alloc rfl 64 rfl _ (alloc_R _) ?_
        have Lrb : w2.heap.size ≤ u1.heap.size := hb.size
        have Nibrb : ib < u1.heap.size := Fib.lt
        replace Fib := Fib.below (below1 u1 (.cells (rolesRow Vc.zero 0 (.slice none 0 0) (.slice none 0 0)) 64))
        have Frb := heap_alloc_new u1 (.cells (rolesRow Vc.zero 0 (.slice none 0 0) (.slice none 0 0)) 64)
        have hbn : Below w2.heap.size w2 (u1.alloc (.cells (rolesRow Vc.zero 0 (.slice none 0 0) (.slice none 0 0)) 64)) := hb.later (below1 u1 _)
        replace hb := hbn
        clear hbn
        refine hK.out _ _ ⟨hb, hYc.out _ (heap_kept hb hQ.out)⟩ (fun hHeld11 => ?_)
        clear hK K
        try simp only [Act.put, List.setIfInBounds_toArray, List.set_cons_zero, List.set_cons_succ]
        generalize u1.alloc (.cells (rolesRow Vc.zero 0 (.slice none 0 0) (.slice none 0 0)) 64) = u2 at *
        generalize u1.heap.size = rb at *
        refine wpAnyH_ready (rs := [9]) (by kernel_rfl) (by simp) ?_
        refine AllReadyH.cons (o := { dst := some 21, op := Op.makeSlice 62 (Operand.tmp 20) (Operand.tmp 20), type := 62, pos := "role.go:55", after := #[{ on := 8, ground := Ground.data }, { on := 8, ground := Ground.data }], guard := none }) rfl (fun K hK => ?_) AllReadyH.nil
        refine step_make rfl 62 (.tmp 20) (.tmp 20) rfl n _ rfl rfl (make_V _ n hn) ?_
        have Lvb : w2.heap.size ≤ u2.heap.size := hb.size
        have Nibvb : ib < u2.heap.size := Fib.lt
        replace Fib := Fib.below (below1 u2 (.cells (flat fV (List.replicate n Vc.zero)).toArray 30))
        have Nrbvb : rb < u2.heap.size := (Array.getElem?_eq_some_iff.1 Frb).1
        replace Frb := heap_kept (below1 u2 (.cells (flat fV (List.replicate n Vc.zero)).toArray 30)) Frb
        have Fvb := Fl.new u2 30 fV (List.replicate n Vc.zero)
        have hbn : Below w2.heap.size w2 (u2.alloc (.cells (flat fV (List.replicate n Vc.zero)).toArray 30)) := hb.later (below1 u2 _)
        replace hb := hbn
        clear hbn
        refine hK.out _ _ ⟨hb, hYc.out _ (heap_kept hb hQ.out)⟩ (fun hHeld9 => ?_)
        clear hK K
        try simp only [Act.put, List.setIfInBounds_toArray, List.set_cons_zero, List.set_cons_succ]
        generalize u2.alloc (.cells (flat fV (List.replicate n Vc.zero)).toArray 30) = u3 at *
        generalize u2.heap.size = vb at *
        refine wpAnyH_take (i := 10) (oi := { dst := some 22, op := Op.build 64 #[(0, Operand.tmp 13), (1, Operand.tmp 15), (2, Operand.tmp 18), (3, Operand.tmp 21)], type := 64, pos := "role.go:55", after := #[{ on := 1, ground := Ground.data }, { on := 3, ground := Ground.data }, { on := 6, ground := Ground.data }, { on := 9, ground := Ground.data }], guard := none }) (v := ?v10) rfl (by kernel_rfl) (by kernel_rfl) (by kernel_rfl) (fun _ _ _ h => h) (Or.inl ⟨by rfl, ?y10⟩) (by assumption) ?r10
        case y10 => (intro w hSw; (try dsimp only at hSw); (try (go_split_ands)); go_simp; try with_reducible rfl)
        try simp only [Act.put, List.setIfInBounds_toArray, List.set_cons_zero, List.set_cons_succ]
        refine wpAnyH_ready (rs := [12]) (by kernel_rfl) (by simp) ?_
        refine AllReadyH.cons (o := { dst := none, op := Op.store 64 (Operand.tmp 6) (Operand.tmp 22), type := 0, pos := "role.go:55", after := #[{ on := 11, ground := Ground.data }, { on := 10, ground := Ground.data }, { on := 0, ground := Ground.phase }, { on := 1, ground := Ground.phase }, { on := 2, ground := Ground.phase }, { on := 3, ground := Ground.phase }, { on := 4, ground := Ground.phase }, { on := 5, ground := Ground.phase }, { on := 6, ground := Ground.phase }, { on := 7, ground := Ground.phase }, { on := 8, ground := Ground.phase }, { on := 9, ground := Ground.phase }, { on := 10, ground := Ground.phase }, { on := 11, ground := Ground.phase }], guard := none }) rfl (fun K hK => ?_) AllReadyH.nil
        refine step_store_row rfl 64 (.tmp 6) (.tmp 22) rfl rb (rolesRow Y.v Y.place (.slice (some ⟨ib, 0, none⟩) n n) (.slice (some ⟨vb, 0, none⟩) n n)) rfl rfl 64 _ Frb (rolesSize Vc.zero 0 (.bool true) (.bool true)) rfl (by simp [Value.oneCell']) ?_
        have hbz : Below w2.heap.size w2 (u3.setRow rb (rolesRow Y.v Y.place (.slice (some ⟨ib, 0, none⟩) n n) (.slice (some ⟨vb, 0, none⟩) n n))) := below_setRow hb Lrb _
        have hYz := heap_kept hbz hQ.out
        have Fibz := Fib.blk (Go.setRow_other u3 rb ib (rolesRow Y.v Y.place (.slice (some ⟨ib, 0, none⟩) n n) (.slice (some ⟨vb, 0, none⟩) n n)) (by omega))
        have Fvbz := Fvb.blk (Go.setRow_other u3 rb vb (rolesRow Y.v Y.place (.slice (some ⟨ib, 0, none⟩) n n) (.slice (some ⟨vb, 0, none⟩) n n)) (by omega))
        have Frbz := setRow_heap u3 rb _ (rolesRow Y.v Y.place (.slice (some ⟨ib, 0, none⟩) n n) (.slice (some ⟨vb, 0, none⟩) n n)) 64 _ Frb
        refine hK.out _ _ ⟨hbz, hYc.out _ hYz⟩ (fun hHeld12 => ?_)
        clear hK K
        try simp only [Act.put]
        generalize u3.setRow rb (rolesRow Y.v Y.place (.slice (some ⟨ib, 0, none⟩) n n) (.slice (some ⟨vb, 0, none⟩) n n)) = wz at *
        refine wpAnyH_done (by kernel_rfl) ?_ _
        refine NoPanic.normal ?_
        exact key ib vb rb Lib Lvb Lrb (by omega) (by omega) (by omega) wz hbz Fibz Fvbz Frbz
    ·
      refine step_make rfl 62 (.tmp 20) (.tmp 20) rfl n _ rfl rfl (make_V _ n hn) ?_
      have Lvb : w2.heap.size ≤ u0.heap.size := hb.size
      have Fvb := Fl.new u0 30 fV (List.replicate n Vc.zero)
      have hbn : Below w2.heap.size w2 (u0.alloc (.cells (flat fV (List.replicate n Vc.zero)).toArray 30)) := hb.later (below1 u0 _)
      replace hb := hbn
      clear hbn
      refine hK.out _ _ ⟨hb, hYc.out _ (heap_kept hb hQ.out)⟩ (fun hHeld9 => ?_)
      clear hK K
      try simp only [Act.put, List.setIfInBounds_toArray, List.set_cons_zero, List.set_cons_succ]
      generalize u0.alloc (.cells (flat fV (List.replicate n Vc.zero)).toArray 30) = u1 at *
      generalize u0.heap.size = vb at *
      refine wpAnyH_ready (rs := [6, 11]) (by kernel_rfl) (by simp) ?_
      refine AllReadyH.cons (o := { dst := some 18, op := Op.makeSlice 26 (Operand.tmp 17) (Operand.tmp 17), type := 26, pos := "role.go:55", after := #[{ on := 5, ground := Ground.data }, { on := 5, ground := Ground.data }], guard := none }) rfl (fun K hK => ?_) (AllReadyH.cons (o := { dst := some 6, op := Op.alloc 64, type := 0, pos := "role.go:55", after := #[], guard := none }) rfl (fun K hK => ?_) (AllReadyH.nil))
      ·
        refine step_make rfl 26 (.tmp 17) (.tmp 17) rfl n _ rfl rfl (make_I _ n hn) ?_
        have Lib : w2.heap.size ≤ u1.heap.size := hb.size
        have Nvbib : vb < u1.heap.size := Fvb.lt
        replace Fvb := Fvb.below (below1 u1 (.cells (flat fI (List.replicate n 0)).toArray 3))
        have Fib := Fl.new u1 3 fI (List.replicate n 0)
        have hbn : Below w2.heap.size w2 (u1.alloc (.cells (flat fI (List.replicate n 0)).toArray 3)) := hb.later (below1 u1 _)
        replace hb := hbn
        clear hbn
        refine hK.out _ _ ⟨hb, hYc.out _ (heap_kept hb hQ.out)⟩ (fun hHeld6 => ?_)
        clear hK K
        try simp only [Act.put, List.setIfInBounds_toArray, List.set_cons_zero, List.set_cons_succ]
        generalize u1.alloc (.cells (flat fI (List.replicate n 0)).toArray 3) = u2 at *
        generalize u1.heap.size = ib at *
        refine wpAnyH_take (i := 10) (oi := { dst := some 22, op := Op.build 64 #[(0, Operand.tmp 13), (1, Operand.tmp 15), (2, Operand.tmp 18), (3, Operand.tmp 21)], type := 64, pos := "role.go:55", after := #[{ on := 1, ground := Ground.data }, { on := 3, ground := Ground.data }, { on := 6, ground := Ground.data }, { on := 9, ground := Ground.data }], guard := none }) (v := ?v11) rfl (by kernel_rfl) (by kernel_rfl) (by kernel_rfl) (fun _ _ _ h => h) (Or.inl ⟨by rfl, ?y11⟩) (by assumption) ?r11
        case y11 => (intro w hSw; (try dsimp only at hSw); (try (go_split_ands)); go_simp; try with_reducible rfl)
        try simp only [Act.put, List.setIfInBounds_toArray, List.set_cons_zero, List.set_cons_succ]
        refine wpAnyH_ready (rs := [11]) (by kernel_rfl) (by simp) ?_
        refine AllReadyH.cons (o := { dst := some 6, op := Op.alloc 64, type := 0, pos := "role.go:55", after := #[], guard := none }) rfl (fun K hK => ?_) AllReadyH.nil
        refine step_alloc rfl 64 rfl _ (alloc_R _) ?_
        have Lrb : w2.heap.size ≤ u2.heap.size := hb.size
        have Nvbrb : vb < u2.heap.size := Fvb.lt
        replace Fvb := Fvb.below (below1 u2 (.cells (rolesRow Vc.zero 0 (.slice none 0 0) (.slice none 0 0)) 64))
        have Nibrb : ib < u2.heap.size := Fib.lt
        replace Fib := Fib.below (below1 u2 (.cells (rolesRow Vc.zero 0 (.slice none 0 0) (.slice none 0 0)) 64))
        have Frb := heap_alloc_new u2 (.cells (rolesRow Vc.zero 0 (.slice none 0 0) (.slice none 0 0)) 64)
        have hbn : Below w2.heap.size w2 (u2.alloc (.cells (rolesRow Vc.zero 0 (.slice none 0 0) (.slice none 0 0)) 64)) := hb.later (below1 u2 _)
        replace hb := hbn
        clear hbn
        refine hK.out _ _ ⟨hb, hYc.out _ (heap_kept hb hQ.out)⟩ (fun hHeld11 => ?_)
        clear hK K
        try simp only [Act.put, List.setIfInBounds_toArray, List.set_cons_zero, List.set_cons_succ]
        generalize u2.alloc (.cells (rolesRow Vc.zero 0 (.slice none 0 0) (.slice none 0 0)) 64) = u3 at *
        generalize u2.heap.size = rb at *
        refine wpAnyH_ready (rs := [12]) (by kernel_rfl) (by simp) ?_
        refine AllReadyH.cons (o := { dst := none, op := Op.store 64 (Operand.tmp 6) (Operand.tmp 22), type := 0, pos := "role.go:55", after := #[{ on := 11, ground := Ground.data }, { on := 10, ground := Ground.data }, { on := 0, ground := Ground.phase }, { on := 1, ground := Ground.phase }, { on := 2, ground := Ground.phase }, { on := 3, ground := Ground.phase }, { on := 4, ground := Ground.phase }, { on := 5, ground := Ground.phase }, { on := 6, ground := Ground.phase }, { on := 7, ground := Ground.phase }, { on := 8, ground := Ground.phase }, { on := 9, ground := Ground.phase }, { on := 10, ground := Ground.phase }, { on := 11, ground := Ground.phase }], guard := none }) rfl (fun K hK => ?_) AllReadyH.nil
        refine step_store_row rfl 64 (.tmp 6) (.tmp 22) rfl rb (rolesRow Y.v Y.place (.slice (some ⟨ib, 0, none⟩) n n) (.slice (some ⟨vb, 0, none⟩) n n)) rfl rfl 64 _ Frb (rolesSize Vc.zero 0 (.bool true) (.bool true)) rfl (by simp [Value.oneCell']) ?_
        have hbz : Below w2.heap.size w2 (u3.setRow rb (rolesRow Y.v Y.place (.slice (some ⟨ib, 0, none⟩) n n) (.slice (some ⟨vb, 0, none⟩) n n))) := below_setRow hb Lrb _
        have hYz := heap_kept hbz hQ.out
        have Fibz := Fib.blk (Go.setRow_other u3 rb ib (rolesRow Y.v Y.place (.slice (some ⟨ib, 0, none⟩) n n) (.slice (some ⟨vb, 0, none⟩) n n)) (by omega))
        have Fvbz := Fvb.blk (Go.setRow_other u3 rb vb (rolesRow Y.v Y.place (.slice (some ⟨ib, 0, none⟩) n n) (.slice (some ⟨vb, 0, none⟩) n n)) (by omega))
        have Frbz := setRow_heap u3 rb _ (rolesRow Y.v Y.place (.slice (some ⟨ib, 0, none⟩) n n) (.slice (some ⟨vb, 0, none⟩) n n)) 64 _ Frb
        refine hK.out _ _ ⟨hbz, hYc.out _ hYz⟩ (fun hHeld12 => ?_)
        clear hK K
        try simp only [Act.put]
        generalize u3.setRow rb (rolesRow Y.v Y.place (.slice (some ⟨ib, 0, none⟩) n n) (.slice (some ⟨vb, 0, none⟩) n n)) = wz at *
        refine wpAnyH_done (by kernel_rfl) ?_ _
        refine NoPanic.normal ?_
        exact key ib vb rb Lib Lvb Lrb (by omega) (by omega) (by omega) wz hbz Fibz Fvbz Frbz
      ·
        refine step_alloc rfl 64 rfl _ (alloc_R _) ?_
        have Lrb : w2.heap.size ≤ u1.heap.size := hb.size
        have Nvbrb : vb < u1.heap.size := Fvb.lt
        replace Fvb := Fvb.below (below1 u1 (.cells (rolesRow Vc.zero 0 (.slice none 0 0) (.slice none 0 0)) 64))
        have Frb := heap_alloc_new u1 (.cells (rolesRow Vc.zero 0 (.slice none 0 0) (.slice none 0 0)) 64)
        have hbn : Below w2.heap.size w2 (u1.alloc (.cells (rolesRow Vc.zero 0 (.slice none 0 0) (.slice none 0 0)) 64)) := hb.later (below1 u1 _)
        replace hb := hbn
        clear hbn
        refine hK.out _ _ ⟨hb, hYc.out _ (heap_kept hb hQ.out)⟩ (fun hHeld11 => ?_)
        clear hK K
        try simp only [Act.put, List.setIfInBounds_toArray, List.set_cons_zero, List.set_cons_succ]
        generalize u1.alloc (.cells (rolesRow Vc.zero 0 (.slice none 0 0) (.slice none 0 0)) 64) = u2 at *
        generalize u1.heap.size = rb at *
        refine wpAnyH_ready (rs := [6]) (by kernel_rfl) (by simp) ?_
        refine AllReadyH.cons (o := { dst := some 18, op := Op.makeSlice 26 (Operand.tmp 17) (Operand.tmp 17), type := 26, pos := "role.go:55", after := #[{ on := 5, ground := Ground.data }, { on := 5, ground := Ground.data }], guard := none }) rfl (fun K hK => ?_) AllReadyH.nil
        refine step_make rfl 26 (.tmp 17) (.tmp 17) rfl n _ rfl rfl (make_I _ n hn) ?_
        have Lib : w2.heap.size ≤ u2.heap.size := hb.size
        have Nvbib : vb < u2.heap.size := Fvb.lt
        replace Fvb := Fvb.below (below1 u2 (.cells (flat fI (List.replicate n 0)).toArray 3))
        have Nrbib : rb < u2.heap.size := (Array.getElem?_eq_some_iff.1 Frb).1
        replace Frb := heap_kept (below1 u2 (.cells (flat fI (List.replicate n 0)).toArray 3)) Frb
        have Fib := Fl.new u2 3 fI (List.replicate n 0)
        have hbn : Below w2.heap.size w2 (u2.alloc (.cells (flat fI (List.replicate n 0)).toArray 3)) := hb.later (below1 u2 _)
        replace hb := hbn
        clear hbn
        refine hK.out _ _ ⟨hb, hYc.out _ (heap_kept hb hQ.out)⟩ (fun hHeld6 => ?_)
        clear hK K
        try simp only [Act.put, List.setIfInBounds_toArray, List.set_cons_zero, List.set_cons_succ]
        generalize u2.alloc (.cells (flat fI (List.replicate n 0)).toArray 3) = u3 at *
        generalize u2.heap.size = ib at *
        refine wpAnyH_take (i := 10) (oi := { dst := some 22, op := Op.build 64 #[(0, Operand.tmp 13), (1, Operand.tmp 15), (2, Operand.tmp 18), (3, Operand.tmp 21)], type := 64, pos := "role.go:55", after := #[{ on := 1, ground := Ground.data }, { on := 3, ground := Ground.data }, { on := 6, ground := Ground.data }, { on := 9, ground := Ground.data }], guard := none }) (v := ?v12) rfl (by kernel_rfl) (by kernel_rfl) (by kernel_rfl) (fun _ _ _ h => h) (Or.inl ⟨by rfl, ?y12⟩) (by assumption) ?r12
        case y12 => (intro w hSw; (try dsimp only at hSw); (try (go_split_ands)); go_simp; try with_reducible rfl)
        try simp only [Act.put, List.setIfInBounds_toArray, List.set_cons_zero, List.set_cons_succ]
        refine wpAnyH_ready (rs := [12]) (by kernel_rfl) (by simp) ?_
        refine AllReadyH.cons (o := { dst := none, op := Op.store 64 (Operand.tmp 6) (Operand.tmp 22), type := 0, pos := "role.go:55", after := #[{ on := 11, ground := Ground.data }, { on := 10, ground := Ground.data }, { on := 0, ground := Ground.phase }, { on := 1, ground := Ground.phase }, { on := 2, ground := Ground.phase }, { on := 3, ground := Ground.phase }, { on := 4, ground := Ground.phase }, { on := 5, ground := Ground.phase }, { on := 6, ground := Ground.phase }, { on := 7, ground := Ground.phase }, { on := 8, ground := Ground.phase }, { on := 9, ground := Ground.phase }, { on := 10, ground := Ground.phase }, { on := 11, ground := Ground.phase }], guard := none }) rfl (fun K hK => ?_) AllReadyH.nil
        refine step_store_row rfl 64 (.tmp 6) (.tmp 22) rfl rb (rolesRow Y.v Y.place (.slice (some ⟨ib, 0, none⟩) n n) (.slice (some ⟨vb, 0, none⟩) n n)) rfl rfl 64 _ Frb (rolesSize Vc.zero 0 (.bool true) (.bool true)) rfl (by simp [Value.oneCell']) ?_
        have hbz : Below w2.heap.size w2 (u3.setRow rb (rolesRow Y.v Y.place (.slice (some ⟨ib, 0, none⟩) n n) (.slice (some ⟨vb, 0, none⟩) n n))) := below_setRow hb Lrb _
        have hYz := heap_kept hbz hQ.out
        have Fibz := Fib.blk (Go.setRow_other u3 rb ib (rolesRow Y.v Y.place (.slice (some ⟨ib, 0, none⟩) n n) (.slice (some ⟨vb, 0, none⟩) n n)) (by omega))
        have Fvbz := Fvb.blk (Go.setRow_other u3 rb vb (rolesRow Y.v Y.place (.slice (some ⟨ib, 0, none⟩) n n) (.slice (some ⟨vb, 0, none⟩) n n)) (by omega))
        have Frbz := setRow_heap u3 rb _ (rolesRow Y.v Y.place (.slice (some ⟨ib, 0, none⟩) n n) (.slice (some ⟨vb, 0, none⟩) n n)) 64 _ Frb
        refine hK.out _ _ ⟨hbz, hYc.out _ hYz⟩ (fun hHeld12 => ?_)
        clear hK K
        try simp only [Act.put]
        generalize u3.setRow rb (rolesRow Y.v Y.place (.slice (some ⟨ib, 0, none⟩) n n) (.slice (some ⟨vb, 0, none⟩) n n)) = wz at *
        refine wpAnyH_done (by kernel_rfl) ?_ _
        refine NoPanic.normal ?_
        exact key ib vb rb Lib Lvb Lrb (by omega) (by omega) (by omega) wz hbz Fibz Fvbz Frbz
    ·
      refine step_alloc rfl 64 rfl _ (alloc_R _) ?_
      have Lrb : w2.heap.size ≤ u0.heap.size := hb.size
      have Frb := heap_alloc_new u0 (.cells (rolesRow Vc.zero 0 (.slice none 0 0) (.slice none 0 0)) 64)
      have hbn : Below w2.heap.size w2 (u0.alloc (.cells (rolesRow Vc.zero 0 (.slice none 0 0) (.slice none 0 0)) 64)) := hb.later (below1 u0 _)
      replace hb := hbn
      clear hbn
      refine hK.out _ _ ⟨hb, hYc.out _ (heap_kept hb hQ.out)⟩ (fun hHeld11 => ?_)
      clear hK K
      try simp only [Act.put, List.setIfInBounds_toArray, List.set_cons_zero, List.set_cons_succ]
      generalize u0.alloc (.cells (rolesRow Vc.zero 0 (.slice none 0 0) (.slice none 0 0)) 64) = u1 at *
      generalize u0.heap.size = rb at *
      refine wpAnyH_ready (rs := [6, 9]) (by kernel_rfl) (by simp) ?_
      refine AllReadyH.cons (o := { dst := some 18, op := Op.makeSlice 26 (Operand.tmp 17) (Operand.tmp 17), type := 26, pos := "role.go:55", after := #[{ on := 5, ground := Ground.data }, { on := 5, ground := Ground.data }], guard := none }) rfl (fun K hK => ?_) (AllReadyH.cons (o := { dst := some 21, op := Op.makeSlice 62 (Operand.tmp 20) (Operand.tmp 20), type := 62, pos := "role.go:55", after := #[{ on := 8, ground := Ground.data }, { on := 8, ground := Ground.data }], guard := none }) rfl (fun K hK => ?_) (AllReadyH.nil))
      ·
        refine step_make rfl 26 (.tmp 17) (.tmp 17) rfl n _ rfl rfl (make_I _ n hn) ?_
        have Lib : w2.heap.size ≤ u1.heap.size := hb.size
        have Nrbib : rb < u1.heap.size := (Array.getElem?_eq_some_iff.1 Frb).1
        replace Frb := heap_kept (below1 u1 (.cells (flat fI (List.replicate n 0)).toArray 3)) Frb
        have Fib := Fl.new u1 3 fI (List.replicate n 0)
        have hbn : Below w2.heap.size w2 (u1.alloc (.cells (flat fI (List.replicate n 0)).toArray 3)) := hb.later (below1 u1 _)
        replace hb := hbn
        clear hbn
        refine hK.out _ _ ⟨hb, hYc.out _ (heap_kept hb hQ.out)⟩ (fun hHeld6 => ?_)
        clear hK K
        try simp only [Act.put, List.setIfInBounds_toArray, List.set_cons_zero, List.set_cons_succ]
        generalize u1.alloc (.cells (flat fI (List.replicate n 0)).toArray 3) = u2 at *
        generalize u1.heap.size = ib at *
        refine wpAnyH_ready (rs := [9]) (by kernel_rfl) (by simp) ?_
        refine AllReadyH.cons (o := { dst := some 21, op := Op.makeSlice 62 (Operand.tmp 20) (Operand.tmp 20), type := 62, pos := "role.go:55", after := #[{ on := 8, ground := Ground.data }, { on := 8, ground := Ground.data }], guard := none }) rfl (fun K hK => ?_) AllReadyH.nil
        refine step_make rfl 62 (.tmp 20) (.tmp 20) rfl n _ rfl rfl (make_V _ n hn) ?_
        have Lvb : w2.heap.size ≤ u2.heap.size := hb.size
        have Nrbvb : rb < u2.heap.size := (Array.getElem?_eq_some_iff.1 Frb).1
        replace Frb := heap_kept (below1 u2 (.cells (flat fV (List.replicate n Vc.zero)).toArray 30)) Frb
        have Nibvb : ib < u2.heap.size := Fib.lt
        replace Fib := Fib.below (below1 u2 (.cells (flat fV (List.replicate n Vc.zero)).toArray 30))
        have Fvb := Fl.new u2 30 fV (List.replicate n Vc.zero)
        have hbn : Below w2.heap.size w2 (u2.alloc (.cells (flat fV (List.replicate n Vc.zero)).toArray 30)) := hb.later (below1 u2 _)
        replace hb := hbn
        clear hbn
        refine hK.out _ _ ⟨hb, hYc.out _ (heap_kept hb hQ.out)⟩ (fun hHeld9 => ?_)
        clear hK K
        try simp only [Act.put, List.setIfInBounds_toArray, List.set_cons_zero, List.set_cons_succ]
        generalize u2.alloc (.cells (flat fV (List.replicate n Vc.zero)).toArray 30) = u3 at *
        generalize u2.heap.size = vb at *
        refine wpAnyH_take (i := 10) (oi := { dst := some 22, op := Op.build 64 #[(0, Operand.tmp 13), (1, Operand.tmp 15), (2, Operand.tmp 18), (3, Operand.tmp 21)], type := 64, pos := "role.go:55", after := #[{ on := 1, ground := Ground.data }, { on := 3, ground := Ground.data }, { on := 6, ground := Ground.data }, { on := 9, ground := Ground.data }], guard := none }) (v := ?v13) rfl (by kernel_rfl) (by kernel_rfl) (by kernel_rfl) (fun _ _ _ h => h) (Or.inl ⟨by rfl, ?y13⟩) (by assumption) ?r13
        case y13 => (intro w hSw; (try dsimp only at hSw); (try (go_split_ands)); go_simp; try with_reducible rfl)
        try simp only [Act.put, List.setIfInBounds_toArray, List.set_cons_zero, List.set_cons_succ]
        refine wpAnyH_ready (rs := [12]) (by kernel_rfl) (by simp) ?_
        refine AllReadyH.cons (o := { dst := none, op := Op.store 64 (Operand.tmp 6) (Operand.tmp 22), type := 0, pos := "role.go:55", after := #[{ on := 11, ground := Ground.data }, { on := 10, ground := Ground.data }, { on := 0, ground := Ground.phase }, { on := 1, ground := Ground.phase }, { on := 2, ground := Ground.phase }, { on := 3, ground := Ground.phase }, { on := 4, ground := Ground.phase }, { on := 5, ground := Ground.phase }, { on := 6, ground := Ground.phase }, { on := 7, ground := Ground.phase }, { on := 8, ground := Ground.phase }, { on := 9, ground := Ground.phase }, { on := 10, ground := Ground.phase }, { on := 11, ground := Ground.phase }], guard := none }) rfl (fun K hK => ?_) AllReadyH.nil
        refine step_store_row rfl 64 (.tmp 6) (.tmp 22) rfl rb (rolesRow Y.v Y.place (.slice (some ⟨ib, 0, none⟩) n n) (.slice (some ⟨vb, 0, none⟩) n n)) rfl rfl 64 _ Frb (rolesSize Vc.zero 0 (.bool true) (.bool true)) rfl (by simp [Value.oneCell']) ?_
        have hbz : Below w2.heap.size w2 (u3.setRow rb (rolesRow Y.v Y.place (.slice (some ⟨ib, 0, none⟩) n n) (.slice (some ⟨vb, 0, none⟩) n n))) := below_setRow hb Lrb _
        have hYz := heap_kept hbz hQ.out
        have Fibz := Fib.blk (Go.setRow_other u3 rb ib (rolesRow Y.v Y.place (.slice (some ⟨ib, 0, none⟩) n n) (.slice (some ⟨vb, 0, none⟩) n n)) (by omega))
        have Fvbz := Fvb.blk (Go.setRow_other u3 rb vb (rolesRow Y.v Y.place (.slice (some ⟨ib, 0, none⟩) n n) (.slice (some ⟨vb, 0, none⟩) n n)) (by omega))
        have Frbz := setRow_heap u3 rb _ (rolesRow Y.v Y.place (.slice (some ⟨ib, 0, none⟩) n n) (.slice (some ⟨vb, 0, none⟩) n n)) 64 _ Frb
        refine hK.out _ _ ⟨hbz, hYc.out _ hYz⟩ (fun hHeld12 => ?_)
        clear hK K
        try simp only [Act.put]
        generalize u3.setRow rb (rolesRow Y.v Y.place (.slice (some ⟨ib, 0, none⟩) n n) (.slice (some ⟨vb, 0, none⟩) n n)) = wz at *
        refine wpAnyH_done (by kernel_rfl) ?_ _
        refine NoPanic.normal ?_
        exact key ib vb rb Lib Lvb Lrb (by omega) (by omega) (by omega) wz hbz Fibz Fvbz Frbz
      ·
        refine step_make rfl 62 (.tmp 20) (.tmp 20) rfl n _ rfl rfl (make_V _ n hn) ?_
        have Lvb : w2.heap.size ≤ u1.heap.size := hb.size
        have Nrbvb : rb < u1.heap.size := (Array.getElem?_eq_some_iff.1 Frb).1
        replace Frb := heap_kept (below1 u1 (.cells (flat fV (List.replicate n Vc.zero)).toArray 30)) Frb
        have Fvb := Fl.new u1 30 fV (List.replicate n Vc.zero)
        have hbn : Below w2.heap.size w2 (u1.alloc (.cells (flat fV (List.replicate n Vc.zero)).toArray 30)) := hb.later (below1 u1 _)
        replace hb := hbn
        clear hbn
        refine hK.out _ _ ⟨hb, hYc.out _ (heap_kept hb hQ.out)⟩ (fun hHeld9 => ?_)
        clear hK K
        try simp only [Act.put, List.setIfInBounds_toArray, List.set_cons_zero, List.set_cons_succ]
        generalize u1.alloc (.cells (flat fV (List.replicate n Vc.zero)).toArray 30) = u2 at *
        generalize u1.heap.size = vb at *
        refine wpAnyH_ready (rs := [6]) (by kernel_rfl) (by simp) ?_
        refine AllReadyH.cons (o := { dst := some 18, op := Op.makeSlice 26 (Operand.tmp 17) (Operand.tmp 17), type := 26, pos := "role.go:55", after := #[{ on := 5, ground := Ground.data }, { on := 5, ground := Ground.data }], guard := none }) rfl (fun K hK => ?_) AllReadyH.nil
        refine step_make rfl 26 (.tmp 17) (.tmp 17) rfl n _ rfl rfl (make_I _ n hn) ?_
        have Lib : w2.heap.size ≤ u2.heap.size := hb.size
        have Nrbib : rb < u2.heap.size := (Array.getElem?_eq_some_iff.1 Frb).1
        replace Frb := heap_kept (below1 u2 (.cells (flat fI (List.replicate n 0)).toArray 3)) Frb
        have Nvbib : vb < u2.heap.size := Fvb.lt
        replace Fvb := Fvb.below (below1 u2 (.cells (flat fI (List.replicate n 0)).toArray 3))
        have Fib := Fl.new u2 3 fI (List.replicate n 0)
        have hbn : Below w2.heap.size w2 (u2.alloc (.cells (flat fI (List.replicate n 0)).toArray 3)) := hb.later (below1 u2 _)
        replace hb := hbn
        clear hbn
        refine hK.out _ _ ⟨hb, hYc.out _ (heap_kept hb hQ.out)⟩ (fun hHeld6 => ?_)
        clear hK K
        try simp only [Act.put, List.setIfInBounds_toArray, List.set_cons_zero, List.set_cons_succ]
        generalize u2.alloc (.cells (flat fI (List.replicate n 0)).toArray 3) = u3 at *
        generalize u2.heap.size = ib at *
        refine wpAnyH_take (i := 10) (oi := { dst := some 22, op := Op.build 64 #[(0, Operand.tmp 13), (1, Operand.tmp 15), (2, Operand.tmp 18), (3, Operand.tmp 21)], type := 64, pos := "role.go:55", after := #[{ on := 1, ground := Ground.data }, { on := 3, ground := Ground.data }, { on := 6, ground := Ground.data }, { on := 9, ground := Ground.data }], guard := none }) (v := ?v14) rfl (by kernel_rfl) (by kernel_rfl) (by kernel_rfl) (fun _ _ _ h => h) (Or.inl ⟨by rfl, ?y14⟩) (by assumption) ?r14
        case y14 => (intro w hSw; (try dsimp only at hSw); (try (go_split_ands)); go_simp; try with_reducible rfl)
        try simp only [Act.put, List.setIfInBounds_toArray, List.set_cons_zero, List.set_cons_succ]
        refine wpAnyH_ready (rs := [12]) (by kernel_rfl) (by simp) ?_
        refine AllReadyH.cons (o := { dst := none, op := Op.store 64 (Operand.tmp 6) (Operand.tmp 22), type := 0, pos := "role.go:55", after := #[{ on := 11, ground := Ground.data }, { on := 10, ground := Ground.data }, { on := 0, ground := Ground.phase }, { on := 1, ground := Ground.phase }, { on := 2, ground := Ground.phase }, { on := 3, ground := Ground.phase }, { on := 4, ground := Ground.phase }, { on := 5, ground := Ground.phase }, { on := 6, ground := Ground.phase }, { on := 7, ground := Ground.phase }, { on := 8, ground := Ground.phase }, { on := 9, ground := Ground.phase }, { on := 10, ground := Ground.phase }, { on := 11, ground := Ground.phase }], guard := none }) rfl (fun K hK => ?_) AllReadyH.nil
        refine step_store_row rfl 64 (.tmp 6) (.tmp 22) rfl rb (rolesRow Y.v Y.place (.slice (some ⟨ib, 0, none⟩) n n) (.slice (some ⟨vb, 0, none⟩) n n)) rfl rfl 64 _ Frb (rolesSize Vc.zero 0 (.bool true) (.bool true)) rfl (by simp [Value.oneCell']) ?_
        have hbz : Below w2.heap.size w2 (u3.setRow rb (rolesRow Y.v Y.place (.slice (some ⟨ib, 0, none⟩) n n) (.slice (some ⟨vb, 0, none⟩) n n))) := below_setRow hb Lrb _
        have hYz := heap_kept hbz hQ.out
        have Fibz := Fib.blk (Go.setRow_other u3 rb ib (rolesRow Y.v Y.place (.slice (some ⟨ib, 0, none⟩) n n) (.slice (some ⟨vb, 0, none⟩) n n)) (by omega))
        have Fvbz := Fvb.blk (Go.setRow_other u3 rb vb (rolesRow Y.v Y.place (.slice (some ⟨ib, 0, none⟩) n n) (.slice (some ⟨vb, 0, none⟩) n n)) (by omega))
        have Frbz := setRow_heap u3 rb _ (rolesRow Y.v Y.place (.slice (some ⟨ib, 0, none⟩) n n) (.slice (some ⟨vb, 0, none⟩) n n)) 64 _ Frb
        refine hK.out _ _ ⟨hbz, hYc.out _ hYz⟩ (fun hHeld12 => ?_)
        clear hK K
        try simp only [Act.put]
        generalize u3.setRow rb (rolesRow Y.v Y.place (.slice (some ⟨ib, 0, none⟩) n n) (.slice (some ⟨vb, 0, none⟩) n n)) = wz at *
        refine wpAnyH_done (by kernel_rfl) ?_ _
        refine NoPanic.normal ?_
        exact key ib vb rb Lib Lvb Lrb (by omega) (by omega) (by omega) wz hbz Fibz Fvbz Frbz
  case kp =>
    intro ib vb rb Lib Lvb Lrb hne1 hne2 hne3 w3 hb3 hFi hFv hFr
    have hR3 := hide (heap_kept hb3 hR2.out)
    have hB3 := hide (hB2.out.later hb3)
    have hQ3 := hide (heap_kept hb3 hQ.out)
    have hqs : q < w2.heap.size := (Array.getElem?_eq_some_iff.1 hQ.out).1
    replace hFi : Hid (Fl w3 ib 3 fI (rolesTo b Y ps 0) []) := by unfold rolesTo; rw [map_range_zero, hps]; exact hFi
    replace hFv : Hid (Fl w3 vb 30 fV (tellsTo b Y ps 0) []) := by unfold tellsTo; rw [map_range_zero, hps]; exact hFv
    replace hFr := hide hFr
    clear hb3 hQ hB2 hR2
    go_wp2_with fail
    go_loopw [25] (fun i wr => ∃ j : Nat, j ≤ n ∧ i = .int .i64 j ∧ Hid (Below w.heap.size w wr) ∧ Hid (wr.heap[w.heap.size]? = some (.cells (rolesRow Vc.zero 0 (.slice none 0 0) (.slice none 0 0)) 64)) ∧ Hid (wr.heap[q]? = some (.cells Y.row 92)) ∧
      Hid (wr.heap[rb]? = some (.cells (rolesRow Y.v Y.place (.slice (some ⟨ib, 0, none⟩) n n) (.slice (some ⟨vb, 0, none⟩) n n)) 64)) ∧ Hid (Fl wr ib 3 fI (rolesTo b Y ps j) []) ∧ Hid (Fl wr vb 30 fV (tellsTo b Y ps j) [])) (fun i _ => n - (intOf i).toNat)
    case atStart => exact ⟨0, Nat.zero_le _, rfl, hB3, hR3, hQ3, hFr, hFi, hFv⟩
    case round =>
      obtain ⟨j, hj, rfl, hB, hZ, hQ, hr, hi, hv⟩ := hrel
      clear hB3 hR3 hQ3 hFr hFi hFv
      by_cases hlt : j < n
      · obtain ⟨bb, off, rfl, hP, hwf⟩ := (hI.out.below hB.out).2 j hlt
        have hvl : (tellsTo b Y ps j).length = n := by simp [tellsTo, hps]
        have hil : (rolesTo b Y ps j).length = n := by simp [rolesTo, hps]
        have hE1 : Hid ((tellsTo b Y ps j).set j (tellV b Y (ps.getD j Rp.zero)) = tellsTo b Y ps (j + 1)) := map_range_set ps.length j _ Vc.zero (by omega)
        have hE2 : Hid ((rolesTo b Y ps j).set j (roleV b Y j (ps.getD j Rp.zero)) = rolesTo b Y ps (j + 1)) := map_range_set ps.length j _ 0 (by omega)
        have hRo := hide (fun w => roleOf_any (ps.getD j Rp.zero) (decide ((j : Int) = Y.place)) (tellV b Y (ps.getD j Rp.zero)) w)
        have hE3 : Hid (roleN (ps.getD j Rp.zero) (decide ((j : Int) = Y.place)) (tellV b Y (ps.getD j Rp.zero)) = roleV b Y j (ps.getD j Rp.zero)) := rfl
        have hE4 : Hid (tellV b Y (ps.getD j Rp.zero) = ⟨Y.v.root, Y.v.cost, b, (ps.getD j Rp.zero).id⟩) := rfl
        generalize roleN (ps.getD j Rp.zero) (decide ((j : Int) = Y.place)) (tellV b Y (ps.getD j Rp.zero)) = ro at *
        rw [hE4.out] at hRo hE1
        generalize ps.getD j Rp.zero = p at *
        obtain ⟨id, cost, up, has, ⟨a0, a1, a2, a3⟩⟩ := p
        obtain ⟨c0, c1, c2, c3, c4, c5, c6, c7⟩ := hP
        obtain ⟨⟨y0, y1, y2, y3⟩, y4, y5⟩ := Y
        dsimp only at *
        have hA := below1 wr (.cells (Rp.row ⟨id, cost, up, has, ⟨a0, a1, a2, a3⟩⟩) 32)
        have hP1 := heap_alloc_new wr (.cells (Rp.row ⟨id, cost, up, has, ⟨a0, a1, a2, a3⟩⟩) 32)
        have hZ1 := hide (heap_kept hA hZ.out)
        have hQ1 := hide (heap_kept hA hQ.out)
        have hr1 := hide (heap_kept hA hr.out)
        have hi1 := hide (hi.out.below hA)
        have hv1 := hide (hv.out.below hA)
        have hB1 := hide (hB.out.later hA)
        have hvlt := hv.out.lt
        have hilt := hi.out.lt
        have hrlt : rb < wr.heap.size := (Array.getElem?_eq_some_iff.1 hr.out).1
        have hqlt : q < wr.heap.size := (Array.getElem?_eq_some_iff.1 hQ.out).1
        have q0 : (wr.alloc (.cells (Rp.row ⟨id, cost, up, has, ⟨a0, a1, a2, a3⟩⟩) 32)).cell? ⟨q, 0, none⟩ = some (.int .u64 y0) := (cell_of_row _ _ _ _ _ _ hQ1.out).trans rfl
        have q1 : (wr.alloc (.cells (Rp.row ⟨id, cost, up, has, ⟨a0, a1, a2, a3⟩⟩) 32)).cell? ⟨q, 1, none⟩ = some (.int .u64 y1) := (cell_of_row _ _ _ _ _ _ hQ1.out).trans rfl
        have r6 : (wr.alloc (.cells (Rp.row ⟨id, cost, up, has, ⟨a0, a1, a2, a3⟩⟩) 32)).cell? ⟨rb, 6, none⟩ = some (.slice (some ⟨vb, 0, none⟩) n n) := (cell_of_row _ _ _ _ _ _ hr1.out).trans rfl
        have hth := hide (hv1.out.there wide_V Vc.zero j 0 4 (by omega) (by omega))
        rw [Nat.add_zero] at hth
        have hvS := hide (hv1.out.setn wide_V Vc.zero j 0 (fV ⟨y0, y1, b, id⟩) ⟨y0, y1, b, id⟩ (by omega) (by simp) rfl)
        rw [Nat.add_zero, hE1.out] at hvS
        go_wp2_with ((with_reducible change wpList _ _ _ _ _ _); refine wpList_store_mid rfl 30 (.tmp 43) (.tmp 42) rfl vb (j * 4) (Vc.row ⟨y0, y1, b, id⟩) rfl rfl hth.out (vecSize Vc.zero) (Vc.row_all _) ?_)
        have hZ6 := hide ((heap_setCells_other vb (Vc.row ⟨y0, y1, b, id⟩).toList (j * 4) _ w.heap.size (by omega)).trans hZ1.out)
        have hQ6 := hide ((heap_setCells_other vb (Vc.row ⟨y0, y1, b, id⟩).toList (j * 4) _ q (by omega)).trans hQ1.out)
        have hr6 := hide ((heap_setCells_other vb (Vc.row ⟨y0, y1, b, id⟩).toList (j * 4) _ rb (by omega)).trans hr1.out)
        have hP6 := hide ((heap_setCells_other vb (Vc.row ⟨y0, y1, b, id⟩).toList (j * 4) _ wr.heap.size (by omega)).trans hP1)
        have hi6 := hide (hi1.out.blk (heap_setCells_other vb (Vc.row ⟨y0, y1, b, id⟩).toList (j * 4) _ ib (by omega)))
        have hB6 := hide (below_setCellsF (b := vb) (by omega) (Vc.row ⟨y0, y1, b, id⟩).toList (j * 4) _ hB1.out)
        clear hZ1 hQ1 hr1 hi1 hB1 hP1 hv1 hth hA q0 q1 r6 c0 c1 c2 c3 c4 c5 c6 c7 hv hZ hQ hr hi hB
        generalize (wr.alloc (.cells (Rp.row ⟨id, cost, up, has, ⟨a0, a1, a2, a3⟩⟩) 32)).setCells vb (j * 4) (Vc.row ⟨y0, y1, b, id⟩).toList = w6 at *
        generalize wr.heap.size = pb at *
        have hpb6 : pb < w6.heap.size := (Array.getElem?_eq_some_iff.1 hP6.out).1
        have hSS : Hid (∀ W : World, (∀ k, k = q ∨ k = rb ∨ k = vb ∨ k = pb → W.heap[k]? = w6.heap[k]?) → W.cell? ⟨q, 4, none⟩ = some (.int .i64 y4) ∧ W.cell? ⟨rb, 5, none⟩ = some (.slice (some ⟨ib, 0, none⟩) n n) ∧ W.cell? ⟨rb, 6, none⟩ = some (.slice (some ⟨vb, 0, none⟩) n n) ∧
            W.cell? ⟨vb, j * 4, none⟩ = some (.int .u64 y0) ∧ W.cell? ⟨vb, j * 4 + 1, none⟩ = some (.int .u64 y1) ∧ W.cell? ⟨vb, j * 4 + 2, none⟩ = some (.int .u64 b) ∧ W.cell? ⟨vb, j * 4 + 3, none⟩ = some (.int .i64 id) ∧ W.cell? ⟨pb, 0, none⟩ = some (.int .i64 id) ∧ W.cell? ⟨pb, 1, none⟩ = some (.int .u64 cost) ∧ W.cell? ⟨pb, 2, none⟩ = some (.bool up) ∧ W.cell? ⟨pb, 3, none⟩ = some (.bool has) ∧ W.cell? ⟨pb, 4, none⟩ = some (.int .u64 a0) ∧ W.cell? ⟨pb, 5, none⟩ = some (.int .u64 a1) ∧ W.cell? ⟨pb, 6, none⟩ = some (.int .u64 a2) ∧ W.cell? ⟨pb, 7, none⟩ = some (.int .i64 a3)) := fun W hW => by
          have v6 := hvS.out.blk (hW vb (by simp))
          have g : ∀ k, k < 4 → W.cell? ⟨vb, j * 4 + k, none⟩ = (fV ⟨y0, y1, b, id⟩)[k]? := fun k hk => by
            have hk1 := v6.cell wide_V Vc.zero j k (by simp [tellsTo, hps]; omega) hk
            rw [hk1, ← hE1.out, getD_set _ _ _ _ _ (by omega), if_pos rfl]
          have hP := RpAt.of_heap ((hW pb (by simp)).trans hP6.out)
          exact ⟨(cell_of_row _ _ _ _ _ _ ((hW q (by simp)).trans hQ6.out)).trans rfl, (cell_of_row _ _ _ _ _ _ ((hW rb (by simp)).trans hr6.out)).trans rfl, (cell_of_row _ _ _ _ _ _ ((hW rb (by simp)).trans hr6.out)).trans rfl, g 0 (by omega), g 1 (by omega), g 2 (by omega), g 3 (by omega), hP.c0, hP.c1, hP.c2, hP.c3, hP.c4, hP.c5, hP.c6, hP.c7⟩
        refine wp_region_noPanic ?_
        refine wp_region_held_drew (S := fun W => W.cell? ⟨q, 4, none⟩ = some (.int .i64 y4) ∧ W.cell? ⟨rb, 5, none⟩ = some (.slice (some ⟨ib, 0, none⟩) n n) ∧ W.cell? ⟨rb, 6, none⟩ = some (.slice (some ⟨vb, 0, none⟩) n n) ∧
            W.cell? ⟨vb, j * 4, none⟩ = some (.int .u64 y0) ∧ W.cell? ⟨vb, j * 4 + 1, none⟩ = some (.int .u64 y1) ∧ W.cell? ⟨vb, j * 4 + 2, none⟩ = some (.int .u64 b) ∧ W.cell? ⟨vb, j * 4 + 3, none⟩ = some (.int .i64 id) ∧ W.cell? ⟨pb, 0, none⟩ = some (.int .i64 id) ∧ W.cell? ⟨pb, 1, none⟩ = some (.int .u64 cost) ∧ W.cell? ⟨pb, 2, none⟩ = some (.bool up) ∧ W.cell? ⟨pb, 3, none⟩ = some (.bool has) ∧ W.cell? ⟨pb, 4, none⟩ = some (.int .u64 a0) ∧ W.cell? ⟨pb, 5, none⟩ = some (.int .u64 a1) ∧ W.cell? ⟨pb, 6, none⟩ = some (.int .u64 a2) ∧ W.cell? ⟨pb, 7, none⟩ = some (.int .i64 a3)) (by kernel_rfl) (hSS.out _ (fun _ _ => rfl)) (fun hHeld => ?_)
        refine wpAnyH_take (i := 0) (oi := { dst := some 44, op := Op.fieldAddr 64 (Operand.tmp 6) 2, type := 0, pos := "role.go:63", after := #[], guard := none }) (v := ?v15) rfl (by kernel_rfl) (by kernel_rfl) (by kernel_rfl) (fun _ _ _ h => h) (Or.inl ⟨by rfl, ?y15⟩) (by assumption) ?r15
        case y15 => (intro w hSw; (try dsimp only at hSw); (try (go_split_ands)); go_simp; try with_reducible rfl)
        try simp only [Act.put, List.setIfInBounds_toArray, List.set_cons_zero, List.set_cons_succ]
        refine wpAnyH_take (i := 1) (oi := { dst := some 45, op := Op.load 26 (Operand.tmp 44), type := 26, pos := "role.go:63", after := #[{ on := 0, ground := Ground.data }], guard := none }) (v := ?v16) rfl (by kernel_rfl) (by kernel_rfl) (by kernel_rfl) (fun _ _ _ h => h) (Or.inl ⟨by rfl, ?y16⟩) (by assumption) ?r16
        case y16 => (intro w hSw; (try dsimp only at hSw); (try (go_split_ands)); go_simp; try with_reducible rfl)
        try simp only [Act.put, List.setIfInBounds_toArray, List.set_cons_zero, List.set_cons_succ]
        refine wpAnyH_take (i := 2) (oi := { dst := some 46, op := Op.move (Operand.tmp 7), type := 3, pos := "role.go:63", after := #[], guard := none }) (v := ?v17) rfl (by kernel_rfl) (by kernel_rfl) (by kernel_rfl) (fun _ _ _ h => h) (Or.inl ⟨by rfl, ?y17⟩) (by assumption) ?r17
        case y17 => (intro w hSw; (try dsimp only at hSw); (try (go_split_ands)); go_simp; try with_reducible rfl)
        try simp only [Act.put, List.setIfInBounds_toArray, List.set_cons_zero, List.set_cons_succ]
        refine wpAnyH_take (i := 3) (oi := { dst := some 47, op := Op.load 32 (Operand.tmp 8), type := 32, pos := "role.go:63", after := #[], guard := none }) (v := ?v18) rfl (by kernel_rfl) (by kernel_rfl) (by kernel_rfl) (fun _ _ _ h => h) (Or.inl ⟨by rfl, ?y18⟩) (by assumption) ?r18
        case y18 => (intro w hSw; (try dsimp only at hSw); (try (go_split_ands)); go_simp; try with_reducible rfl)
        try simp only [Act.put, List.setIfInBounds_toArray, List.set_cons_zero, List.set_cons_succ]
        refine wpAnyH_take (i := 4) (oi := { dst := some 48, op := Op.move (Operand.tmp 7), type := 3, pos := "role.go:63", after := #[], guard := none }) (v := ?v19) rfl (by kernel_rfl) (by kernel_rfl) (by kernel_rfl) (fun _ _ _ h => h) (Or.inl ⟨by rfl, ?y19⟩) (by assumption) ?r19
        case y19 => (intro w hSw; (try dsimp only at hSw); (try (go_split_ands)); go_simp; try with_reducible rfl)
        try simp only [Act.put, List.setIfInBounds_toArray, List.set_cons_zero, List.set_cons_succ]
        refine wpAnyH_take (i := 5) (oi := { dst := some 49, op := Op.fieldAddr 92 (Operand.tmp 5) 1, type := 0, pos := "role.go:63", after := #[], guard := none }) (v := ?v20) rfl (by kernel_rfl) (by kernel_rfl) (by kernel_rfl) (fun _ _ _ h => h) (Or.inl ⟨by rfl, ?y20⟩) (by assumption) ?r20
        case y20 => (intro w hSw; (try dsimp only at hSw); (try (go_split_ands)); go_simp; try with_reducible rfl)
        try simp only [Act.put, List.setIfInBounds_toArray, List.set_cons_zero, List.set_cons_succ]
        refine wpAnyH_take (i := 6) (oi := { dst := some 50, op := Op.load 3 (Operand.tmp 49), type := 3, pos := "role.go:63", after := #[{ on := 5, ground := Ground.data }], guard := none }) (v := ?v21) rfl (by kernel_rfl) (by kernel_rfl) (by kernel_rfl) (fun _ _ _ h => h) (Or.inl ⟨by rfl, ?y21⟩) (by assumption) ?r21
        case y21 => (intro w hSw; (try dsimp only at hSw); (try (go_split_ands)); go_simp; try with_reducible rfl)
        try simp only [Act.put, List.setIfInBounds_toArray, List.set_cons_zero, List.set_cons_succ]
        refine wpAnyH_take (i := 7) (oi := { dst := some 51, op := Op.binOp BinOp.eql 3 (Operand.tmp 48) (Operand.tmp 50) 3, type := 4, pos := "role.go:63", after := #[{ on := 4, ground := Ground.data }, { on := 6, ground := Ground.data }], guard := none }) (v := ?v22) rfl (by kernel_rfl) (by kernel_rfl) (by kernel_rfl) (fun _ _ _ h => h) (Or.inl ⟨by rfl, ?y22⟩) (by assumption) ?r22
        case y22 => (intro w hSw; (try dsimp only at hSw); (try (go_split_ands)); go_simp; try with_reducible rfl)
        try simp only [Act.put, List.setIfInBounds_toArray, List.set_cons_zero, List.set_cons_succ]
        refine wpAnyH_take (i := 8) (oi := { dst := some 52, op := Op.fieldAddr 64 (Operand.tmp 6) 3, type := 0, pos := "role.go:63", after := #[], guard := none }) (v := ?v23) rfl (by kernel_rfl) (by kernel_rfl) (by kernel_rfl) (fun _ _ _ h => h) (Or.inl ⟨by rfl, ?y23⟩) (by assumption) ?r23
        case y23 => (intro w hSw; (try dsimp only at hSw); (try (go_split_ands)); go_simp; try with_reducible rfl)
        try simp only [Act.put, List.setIfInBounds_toArray, List.set_cons_zero, List.set_cons_succ]
        refine wpAnyH_take (i := 9) (oi := { dst := some 53, op := Op.load 62 (Operand.tmp 52), type := 62, pos := "role.go:63", after := #[{ on := 8, ground := Ground.data }], guard := none }) (v := ?v24) rfl (by kernel_rfl) (by kernel_rfl) (by kernel_rfl) (fun _ _ _ h => h) (Or.inl ⟨by rfl, ?y24⟩) (by assumption) ?r24
        case y24 => (intro w hSw; (try dsimp only at hSw); (try (go_split_ands)); go_simp; try with_reducible rfl)
        try simp only [Act.put, List.setIfInBounds_toArray, List.set_cons_zero, List.set_cons_succ]
        refine wpAnyH_take (i := 10) (oi := { dst := some 54, op := Op.move (Operand.tmp 7), type := 3, pos := "role.go:63", after := #[], guard := none }) (v := ?v25) rfl (by kernel_rfl) (by kernel_rfl) (by kernel_rfl) (fun _ _ _ h => h) (Or.inl ⟨by rfl, ?y25⟩) (by assumption) ?r25
        case y25 => (intro w hSw; (try dsimp only at hSw); (try (go_split_ands)); go_simp; try with_reducible rfl)
        try simp only [Act.put, List.setIfInBounds_toArray, List.set_cons_zero, List.set_cons_succ]
        refine wpAnyH_take (i := 11) (oi := { dst := some 55, op := Op.indexAddr 62 (Operand.tmp 53) (Operand.tmp 54), type := 0, pos := "role.go:63", after := #[{ on := 9, ground := Ground.data }, { on := 10, ground := Ground.data }], guard := none }) (v := ?v26) rfl (by kernel_rfl) (by kernel_rfl) (by kernel_rfl) (fun _ _ _ h => h) (Or.inl ⟨by rfl, ?y26⟩) (by assumption) ?r26
        case y26 => (intro w hSw; (try dsimp only at hSw); (try (go_split_ands)); go_simp; try with_reducible rfl)
        try simp only [Act.put, List.setIfInBounds_toArray, List.set_cons_zero, List.set_cons_succ]
        refine wpAnyH_take (i := 12) (oi := { dst := some 56, op := Op.load 30 (Operand.tmp 55), type := 30, pos := "role.go:63", after := #[{ on := 11, ground := Ground.data }], guard := none }) (v := ?v27) rfl (by kernel_rfl) (by kernel_rfl) (by kernel_rfl) (fun _ _ _ h => h) (Or.inl ⟨by rfl, ?y27⟩) (by assumption) ?r27
        case y27 => (intro w hSw; (try dsimp only at hSw); (try (go_split_ands)); go_simp; try with_reducible rfl)
        try simp only [Act.put, List.setIfInBounds_toArray, List.set_cons_zero, List.set_cons_succ]
        refine wpAnyH_ready (rs := [13]) (by kernel_rfl) (by simp) ?_
        refine AllReadyH.cons (o := { dst := some 57, op := Op.call { callee := Callee.value (Operand.func 56), args := #[Operand.tmp 47, Operand.tmp 51, Operand.tmp 56], argTypes := #[32, 4, 30] }, type := 3, pos := "role.go:63", after := #[{ on := 3, ground := Ground.data }, { on := 7, ground := Ground.data }, { on := 12, ground := Ground.data }], guard := none }) rfl (fun K hK => ?_) AllReadyH.nil
        go_simp
        have hbq : ((j : Int) == y4) = decide ((j : Int) = y4) := int_beq _ _
        rw [hbq]
        refine (hRo.out _).mono ?_
        rintro e w7 ⟨rfl, hb7⟩
        have hb7' : Below w6.heap.size w6 w7 := (below_drewN (Below.refl _ _) 1).later hb7
        go_wp2_with fail
        refine hK.out _ _ ?_ (fun hHeld13 => ?_)
        · exact hSS.out _ (fun k hk => hb7'.block k (by omega))
        clear hK K
        try simp only [Act.put, List.setIfInBounds_toArray, List.set_cons_zero, List.set_cons_succ]
        refine wpAnyH_take (i := 14) (oi := { dst := some 58, op := Op.indexAddr 26 (Operand.tmp 45) (Operand.tmp 46), type := 0, pos := "role.go:63", after := #[{ on := 1, ground := Ground.data }, { on := 2, ground := Ground.data }, { on := 0, ground := Ground.phase }, { on := 1, ground := Ground.phase }, { on := 2, ground := Ground.phase }, { on := 3, ground := Ground.phase }, { on := 4, ground := Ground.phase }, { on := 5, ground := Ground.phase }, { on := 6, ground := Ground.phase }, { on := 7, ground := Ground.phase }, { on := 8, ground := Ground.phase }, { on := 9, ground := Ground.phase }, { on := 10, ground := Ground.phase }, { on := 11, ground := Ground.phase }, { on := 12, ground := Ground.phase }, { on := 13, ground := Ground.phase }], guard := none }) (v := ?v28) rfl (by kernel_rfl) (by kernel_rfl) (by kernel_rfl) (fun _ _ _ h => h) (Or.inl ⟨by rfl, ?y28⟩) (by assumption) ?r28
        case y28 => (intro w hSw; (try dsimp only at hSw); (try (go_split_ands)); go_simp; try with_reducible rfl)
        try simp only [Act.put, List.setIfInBounds_toArray, List.set_cons_zero, List.set_cons_succ]
        have hi7 := hide (hi6.out.below hb7')
        have hi8 := hide (hi7.out.set wide_I 0 j 0 (.int .i64 ro) ro (by omega) (by omega) rfl)
        have hif := hi7.out.frozen j
        obtain ⟨z, hz⟩ : ∃ z, w7.cell? ⟨ib, j, none⟩ = some (.int .i64 z) := ⟨_, by simpa using hi7.out.cell wide_I 0 j 0 (by omega) (by omega)⟩
        refine wpAnyH_ready (rs := [15]) (by kernel_rfl) (by simp) ?_
        refine AllReadyH.cons (o := { dst := none, op := Op.store 3 (Operand.tmp 58) (Operand.tmp 57), type := 0, pos := "role.go:63", after := #[{ on := 14, ground := Ground.data }, { on := 13, ground := Ground.data }, { on := 13, ground := Ground.chain }, { on := 0, ground := Ground.phase }, { on := 1, ground := Ground.phase }, { on := 2, ground := Ground.phase }, { on := 3, ground := Ground.phase }, { on := 4, ground := Ground.phase }, { on := 5, ground := Ground.phase }, { on := 6, ground := Ground.phase }, { on := 7, ground := Ground.phase }, { on := 8, ground := Ground.phase }, { on := 9, ground := Ground.phase }, { on := 10, ground := Ground.phase }, { on := 11, ground := Ground.phase }, { on := 12, ground := Ground.phase }, { on := 13, ground := Ground.phase }], guard := none }) rfl (fun K hK => ?_) AllReadyH.nil
        go_simp
        have hsame : ∀ k, k ≠ ib → (w7.setCell ⟨ib, j, none⟩ (.int .i64 ro)).heap[k]? = w7.heap[k]? := fun k hk => heap_setCell_other w7 ⟨ib, j, none⟩ k _ hk
        refine hK.out _ _ (hSS.out _ (fun k hk => (hsame k (by omega)).trans (hb7'.block k (by omega)))) (fun hHeld15 => ?_)
        clear hK K
        try simp only [Act.put]
        have hB8 := hide ((hB6.out.later hb7').setCell (p := ⟨ib, j, none⟩) (by show w.heap.size ≤ ib; omega) (.int .i64 ro))
        have hZ8 := hide ((hsame w.heap.size (by omega)).trans (heap_kept hb7' hZ6.out))
        have hQ8 := hide ((hsame q (by omega)).trans (heap_kept hb7' hQ6.out))
        have hr8 := hide ((hsame rb (by omega)).trans (heap_kept hb7' hr6.out))
        have hv8 := hide ((hvS.out.below hb7').blk (hsame vb (by omega)))
        rw [Nat.mul_one, Nat.add_zero, hE3.out, hE2.out, ← hE3.out] at hi8
        generalize w7.setCell ⟨ib, j, none⟩ (.int .i64 ro) = w8 at *
        refine wpAnyH_done (by kernel_rfl) ?_ _
        refine NoPanic.normal ?_
        clear hsame hz hif hi7 hb7 hb7' hHeld hHeld13 hHeld15 hSS hZ6 hQ6 hr6 hP6 hi6 hB6 hvS
        go_wp2
        go_round
        case rel => exact ⟨j + 1, by omega, by go_num, hB8, hZ8, hQ8, hr8, hi8, hv8⟩
        case measure => simp [intOf]; omega
      · obtain rfl : j = n := by omega
        have hz := hZ.out
        have hy := hr.out
        have hBr := hide (below_setRow hB.out (Nat.le_refl _) (rolesRow Y.v Y.place (.slice (some ⟨ib, 0, none⟩) j j) (.slice (some ⟨vb, 0, none⟩) j j)))
        have hzr := hide (setRow_heap wr w.heap.size _ (rolesRow Y.v Y.place (.slice (some ⟨ib, 0, none⟩) j j) (.slice (some ⟨vb, 0, none⟩) j j)) 64 _ hz)
        have hi2 := hide (hi.out.blk (Go.setRow_other wr w.heap.size ib (rolesRow Y.v Y.place (.slice (some ⟨ib, 0, none⟩) j j) (.slice (some ⟨vb, 0, none⟩) j j)) (by omega)))
        have hv2 := hide (hv.out.blk (Go.setRow_other wr w.heap.size vb (rolesRow Y.v Y.place (.slice (some ⟨ib, 0, none⟩) j j) (.slice (some ⟨vb, 0, none⟩) j j)) (by omega)))
        go_wp2_with (first | ((with_reducible change wpList _ _ _ _ _ _); refine wpList_load_row rfl 64 (.tmp 6) rfl rb rfl 64 _ _ _ hy Try.underlying64 rfl (rolesSize Vc.zero 0 (.bool true) (.bool true)) ?_) | ((with_reducible change wpList _ _ _ _ _ _); refine wpList_store_row rfl 64 (.tmp 4) (.tmp 60) rfl w.heap.size (rolesRow Y.v Y.place (.slice (some ⟨ib, 0, none⟩) j j) (.slice (some ⟨vb, 0, none⟩) j j)) rfl rfl 64 _ hz (rolesSize Vc.zero 0 (.bool true) (.bool true)) rfl (by simp [Value.oneCell']) ?_))
        refine bodyPost_ret (results_cell_row rfl _ _ w.heap.size 64 _ _ _ rfl hzr.out Try.underlying64 rfl (rolesSize Vc.zero 0 (.bool true) (.bool true))) rfl ⟨ib, vb, by rw [hYE.out], hBr.out, by omega, by omega, hne1, ?_, ?_⟩
        · rw [hrl.out]; exact hi2.out
        · rw [htl.out]; exact hv2.out
end Go.Proofs.Ytoejoneecanbbaa
