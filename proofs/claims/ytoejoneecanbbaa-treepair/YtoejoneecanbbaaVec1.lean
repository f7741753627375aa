
/-
  A vector, field by field; two are the same just if each field is; contracts of vector's functions. Conditions: those that each theorem names.
-/
import Derived.Test.YtoejoneecanbbaaLawsB
import Derived.DeepKeys
import Derived.Deep.Light
import Derived.Deep.MidRow
namespace Go.Proofs.Ytoejoneecanbbaa
open Go.RowKit
set_option linter.unusedVariables false

def I64 (n : Int) : Prop := -9223372036854775808 ≤ n ∧ n ≤ 9223372036854775807
def U64 (n : Int) : Prop := 0 ≤ n ∧ n ≤ 18446744073709551615
/-- What a bridge tells of the root. -/
structure Vc where
  (root cost bridge port : Int)
  deriving DecidableEq
instance : Inhabited Vc := ⟨⟨0, 0, 0, 0⟩⟩
@[reducible] def Vc.row (v : Vc) : Array Value := #[.int .u64 v.root, .int .u64 v.cost, .int .u64 v.bridge, .int .i64 v.port]
@[reducible] def Vc.zero : Vc := ⟨0, 0, 0, 0⟩
structure Vc.wf (v : Vc) : Prop where
  root : U64 v.root
  cost : U64 v.cost
  bridge : U64 v.bridge
  port : I64 v.port
theorem wf_i64 {n : Int} (h : I64 n) : (Lit.int .i64 n).wf = true := by unfold I64 at h; simp [Lit.wf, IntKind.min, IntKind.max, IntKind.signed, IntKind.bits]; omega
theorem wf_u64 {n : Int} (h : U64 n) : (Lit.int .u64 n).wf = true := by unfold U64 at h; simp [Lit.wf, IntKind.min, IntKind.max, IntKind.signed, IntKind.bits]; omega
theorem u64_lits (d : Nat) (n : Int) (h : U64 n) : Try.prog.keyLits (d + 1) 22 [.int .u64 n] = some [.int .u64 n] := by
  simp [Program.keyLits, Try.underlying22, wf_u64 h]
theorem int_lits (d : Nat) (n : Int) (h : I64 n) : Try.prog.keyLits (d + 1) 3 [.int .i64 n] = some [.int .i64 n] := by
  simp [Program.keyLits, Try.underlying3, wf_i64 h]
theorem cells_int : Try.prog.cellsOf 3 = 1 := by kernel_rfl
theorem cells_u64 : Try.prog.cellsOf 22 = 1 := by kernel_rfl
theorem cells_vec : Try.prog.cellsOf 30 = 4 := by kernel_rfl
def Vc.lits (v : Vc) : List Lit := [.int .u64 v.root, .int .u64 v.cost, .int .u64 v.bridge, .int .i64 v.port]
theorem vec_lits (d : Nat) (v : Vc) (hw : v.wf) : Try.prog.keyLits (d + 2) 30 v.row.toList = some v.lits := by
  have h1 := u64_lits d _ hw.root
  have h2 := u64_lits d _ hw.cost
  have h3 := u64_lits d _ hw.bridge
  have h4 := int_lits d _ hw.port
  unfold Program.keyLits
  rw [Try.underlying30]
  simp [cells_vec, cells_u64, cells_int, h1, h2, h3, h4, Vc.lits]
theorem vlits_inj {a b : Vc} (h : a.lits = b.lits) : a = b := by
  obtain ⟨a0, a1, a2, a3⟩ := a
  obtain ⟨b0, b1, b2, b3⟩ := b
  simp [Vc.lits] at h
  simp [h]
theorem vec_equal (a b : Vc) (ha : a.wf) (hb : b.wf) (w : World) : (Op.equalIn 10000 30 (.agg a.row) (.agg b.row)).run Try.prog w = .ok (decide (a = b)) w := by
  obtain ⟨r, h1, h2⟩ := run_equalIn_deep (P := Try.prog) 9998 2 30 (by kernel_rfl) w 2 2 (.agg a.row) (.agg b.row) a.lits b.lits (by kernel_rfl) (by kernel_rfl) (vec_lits 0 a ha) (vec_lits 0 b hb)
  refine h1.trans (congrArg (fun r => Result.ok r w) ?_)
  rw [Bool.eq_iff_iff, decide_eq_true_eq]
  exact h2.trans ⟨vlits_inj, fun e => by rw [e]⟩
theorem vec_eql (a b : Vc) (ha : a.wf) (hb : b.wf) (w : World) : (binOp .eql 30 (.agg a.row) (.agg b.row)).run Try.prog w = .ok (.bool (decide (a = b))) w := by
  rw [run_eql_struct, vec_equal a b ha hb]; rfl
theorem vec_neq (a b : Vc) (ha : a.wf) (hb : b.wf) (w : World) : (binOp .neq 30 (.agg a.row) (.agg b.row)).run Try.prog w = .ok (.bool (!decide (a = b))) w := by
  rw [run_neq_struct, vec_equal a b ha hb]; rfl
theorem eqGuard_vec : Try.prog.eqGuardType Try.prog.depth 30 = false := by kernel_rfl

def ordN (a b : Int) : Int := if a < b then -1 else if b < a then 1 else 0
theorem ordU_any (a b : Int) (w : World) : Calls Try.prog 75 #[.int .u64 a, .int .u64 b] w fun r w' => r = .returned (.int .i64 (ordN a b)) ∧ w' = w := by
  unfold ordN
  go_enter Try.func75, Try.ntmps75
  by_cases h1 : a < b
  · go_wp2
    go_ret
    exact ⟨rfl, rfl⟩
  · by_cases h2 : b < a
    · go_wp2
      go_ret
      exact ⟨rfl, rfl⟩
    · go_wp2
      go_ret
      exact ⟨rfl, rfl⟩
theorem ordI_any (a b : Int) (w : World) : Calls Try.prog 76 #[.int .i64 a, .int .i64 b] w fun r w' => r = .returned (.int .i64 (ordN a b)) ∧ w' = w := by
  unfold ordN
  go_enter Try.func76, Try.ntmps76
  by_cases h1 : a < b
  · go_wp2
    go_ret
    exact ⟨rfl, rfl⟩
  · by_cases h2 : b < a
    · go_wp2
      go_ret
      exact ⟨rfl, rfl⟩
    · go_wp2
      go_ret
      exact ⟨rfl, rfl⟩

def orL : List Int → Int
  | [] => 0
  | x :: r => if x = 0 then orL r else x
theorem orL_zero : ∀ (zs : List Int), (∀ i, i < zs.length → zs.getD i 0 = 0) → orL zs = 0
  | [], _ => rfl
  | x :: r, h => by
    have h0 := h 0 (by simp)
    simp at h0
    rw [orL, if_pos h0]
    exact orL_zero r fun i hi => by simpa using h (i + 1) (by simpa using hi)
theorem orL_at : ∀ (zs : List Int) (j : Nat), j < zs.length → (∀ i, i < j → zs.getD i 0 = 0) → zs.getD j 0 ≠ 0 → orL zs = zs.getD j 0
  | [], j, h, _, _ => by simp at h
  | x :: r, 0, _, _, h => by simp at h; simp [orL, h]
  | x :: r, j + 1, hl, h0, h => by
    have h1 := h0 0 (by omega)
    simp at h1
    rw [orL, if_pos h1, orL_at r j (by simpa using hl) (fun i hi => by simpa using h0 (i + 1) (by omega)) (by simpa using h)]
    simp
theorem Or_any (b off n cap : Nat) (zs : List Int) (w : World) (hn : zs.length = n) (hm : n ≤ 1000) (hc : Hid (∀ i, i < n → w.cell? ⟨b, off + i, none⟩ = some (.int .i64 (zs.getD i 0)))) :
    Calls Try.prog 74 #[.slice (some ⟨b, off, none⟩) n cap] w fun r w' => r = .returned (.int .i64 (orL zs)) ∧ w' = w := by
  go_enter Try.func74, Try.ntmps74
  go_wp2
  go_loop [8] (fun i => ∃ j : Nat, j ≤ n ∧ i = .int .i64 j ∧ Hid (∀ i, i < j → zs.getD i 0 = 0)) (fun i => n - (intOf i).toNat)
  case atStart => exact ⟨0, Nat.zero_le _, rfl, hide fun i hi => by omega⟩
  case round =>
    obtain ⟨j, hj, rfl, hZ⟩ := hrel
    by_cases hlt : j < n
    · have hcj := hc.out j hlt
      have hat := hide (orL_at zs j (by omega) hZ.out)
      have hZ1 : zs.getD j 0 = 0 → Hid (∀ i, i < j + 1 → zs.getD i 0 = 0) := fun h => hide fun i hi => by
        by_cases e : i = j
        · rw [e]; exact h
        · exact hZ.out i (by omega)
      generalize zs.getD j 0 = z at *
      by_cases h0 : z = 0
      · have h1 := hZ1 h0
        clear hZ1 hat
        subst h0
        go_wp2
        go_round
        case rel => exact ⟨j + 1, by omega, by go_num, h1⟩
        case measure => simp [intOf]; omega
      · clear hZ1
        go_wp2
        go_ret
        exact ⟨ret_i64 (hat.out h0).symm, rfl⟩
    · have h0 := hide (orL_zero zs (fun i hi => hZ.out i (by omega)))
      go_wp2
      go_ret
      exact ⟨ret_i64 h0.out.symm, rfl⟩
theorem heap_alloc2_newB (w : World) (o1 o2 : Obj) : ((w.alloc o1).alloc o2).heap[w.heap.size + 1]? = some o2 := by
  have h := heap_alloc_new (w.alloc o1) o2
  rwa [World.size_alloc] at h
theorem heap_alloc2_oldB (w : World) (o1 o2 : Obj) : ((w.alloc o1).alloc o2).heap[w.heap.size]? = some o1 := by
  exact (heap_alloc_old _ _ (show w.heap.size < (w.alloc o1).heap.size by rw [World.size_alloc]; omega)).trans (heap_alloc_new w o1)
def cmpN (a b : Vc) : Int := orL [ordN a.root b.root, ordN a.cost b.cost, ordN a.bridge b.bridge, ordN a.port b.port]
theorem Compare_any (a b : Vc) (w : World) : Calls Try.prog 72 #[.agg a.row, .agg b.row] w fun r w' => r = .returned (.int .i64 (cmpN a b)) ∧ Below w.heap.size w w' := by
  unfold cmpN
  obtain ⟨a0, a1, a2, a3⟩ := a
  obtain ⟨b0, b1, b2, b3⟩ := b
  have hA := heap_alloc2_oldB w (.cells (Vc.row ⟨a0, a1, a2, a3⟩) 30) (.cells (Vc.row ⟨b0, b1, b2, b3⟩) 30)
  have hB := heap_alloc2_newB w (.cells (Vc.row ⟨a0, a1, a2, a3⟩) 30) (.cells (Vc.row ⟨b0, b1, b2, b3⟩) 30)
  have hb0 : Below w.heap.size w ((w.alloc (.cells (Vc.row ⟨a0, a1, a2, a3⟩) 30)).alloc (.cells (Vc.row ⟨b0, b1, b2, b3⟩) 30)) := (below1 _ _).later (below1 _ _)
  have h0 := hide (fun w => ordU_any a0 b0 w)
  have h1 := hide (fun w => ordU_any a1 b1 w)
  have h2 := hide (fun w => ordU_any a2 b2 w)
  have h3 := hide (fun w => ordI_any a3 b3 w)
  dsimp only
  generalize ordN a0 b0 = x0 at *
  generalize ordN a1 b1 = x1 at *
  generalize ordN a2 b2 = x2 at *
  generalize ordN a3 b3 = x3 at *
  go_enter Try.func72, Try.ntmps72
  go_wp2_with fail
  have hs0 := World.size_alloc (w.alloc (.cells (Vc.row ⟨a0, a1, a2, a3⟩) 30)) (.cells (Vc.row ⟨b0, b1, b2, b3⟩) 30)
  rw [World.size_alloc] at hs0
  generalize (w.alloc (.cells (Vc.row ⟨a0, a1, a2, a3⟩) 30)).alloc (.cells (Vc.row ⟨b0, b1, b2, b3⟩) 30) = w1 at *
  have hS : ∀ W : World, Below w1.heap.size w1 W → W.cell? ⟨w.heap.size, 0, none⟩ = some (.int .u64 a0) ∧ W.cell? ⟨w.heap.size, 1, none⟩ = some (.int .u64 a1) ∧ W.cell? ⟨w.heap.size, 2, none⟩ = some (.int .u64 a2) ∧ W.cell? ⟨w.heap.size, 3, none⟩ = some (.int .i64 a3) ∧
      W.cell? ⟨w.heap.size + 1, 0, none⟩ = some (.int .u64 b0) ∧ W.cell? ⟨w.heap.size + 1, 1, none⟩ = some (.int .u64 b1) ∧ W.cell? ⟨w.heap.size + 1, 2, none⟩ = some (.int .u64 b2) ∧ W.cell? ⟨w.heap.size + 1, 3, none⟩ = some (.int .i64 b3) := by
    intro W h
    have hA' := heap_kept h hA
    have hB' := heap_kept h hB
    exact ⟨(cell_of_row _ _ _ _ _ _ hA').trans rfl, (cell_of_row _ _ _ _ _ _ hA').trans rfl, (cell_of_row _ _ _ _ _ _ hA').trans rfl, (cell_of_row _ _ _ _ _ _ hA').trans rfl, (cell_of_row _ _ _ _ _ _ hB').trans rfl, (cell_of_row _ _ _ _ _ _ hB').trans rfl, (cell_of_row _ _ _ _ _ _ hB').trans rfl, (cell_of_row _ _ _ _ _ _ hB').trans rfl⟩
  have hS := hide hS
  clear hA hB
  refine wp_region_noPanic ?_
  refine wp_region_held_drew (S := fun W => Below w1.heap.size w1 W ∧ W.cell? ⟨w.heap.size, 0, none⟩ = some (.int .u64 a0) ∧ W.cell? ⟨w.heap.size, 1, none⟩ = some (.int .u64 a1) ∧ W.cell? ⟨w.heap.size, 2, none⟩ = some (.int .u64 a2) ∧ W.cell? ⟨w.heap.size, 3, none⟩ = some (.int .i64 a3) ∧
      W.cell? ⟨w.heap.size + 1, 0, none⟩ = some (.int .u64 b0) ∧ W.cell? ⟨w.heap.size + 1, 1, none⟩ = some (.int .u64 b1) ∧ W.cell? ⟨w.heap.size + 1, 2, none⟩ = some (.int .u64 b2) ∧ W.cell? ⟨w.heap.size + 1, 3, none⟩ = some (.int .i64 b3)) (by kernel_rfl) ⟨below_drewN (Below.refl _ _) 1, hS.out _ (below_drewN (Below.refl _ _) 1)⟩ (fun hHeld => ?_)
  refine wpAnyH_take (i := 0) (oi := { dst := some 5, op := Op.fieldAddr 30 (Operand.tmp 2) 0, type := 0, pos := "vector.go:27", after := #[], guard := none }) (v := ?v1) rfl (by kernel_rfl) (by kernel_rfl) (by kernel_rfl) (fun _ _ _ h => h) (Or.inl ⟨by rfl, ?y1⟩) (by assumption) ?r1
  case y1 => (intro w hSw; (try dsimp only at hSw); (try (go_split_ands)); go_simp; try with_reducible rfl)
  try simp only [Act.put, List.setIfInBounds_toArray, List.set_cons_zero, List.set_cons_succ]
  refine wpAnyH_take (i := 1) (oi := { dst := some 6, op := Op.load 22 (Operand.tmp 5), type := 22, pos := "vector.go:27", after := #[{ on := 0, ground := Ground.data }], guard := none }) (v := ?v2) rfl (by kernel_rfl) (by kernel_rfl) (by kernel_rfl) (fun _ _ _ h => h) (Or.inl ⟨by rfl, ?y2⟩) (by assumption) ?r2
  case y2 => (intro w hSw; (try dsimp only at hSw); (try (go_split_ands)); go_simp; try with_reducible rfl)
  try simp only [Act.put, List.setIfInBounds_toArray, List.set_cons_zero, List.set_cons_succ]
  refine wpAnyH_take (i := 2) (oi := { dst := some 7, op := Op.fieldAddr 30 (Operand.tmp 3) 0, type := 0, pos := "vector.go:27", after := #[], guard := none }) (v := ?v3) rfl (by kernel_rfl) (by kernel_rfl) (by kernel_rfl) (fun _ _ _ h => h) (Or.inl ⟨by rfl, ?y3⟩) (by assumption) ?r3
  case y3 => (intro w hSw; (try dsimp only at hSw); (try (go_split_ands)); go_simp; try with_reducible rfl)
  try simp only [Act.put, List.setIfInBounds_toArray, List.set_cons_zero, List.set_cons_succ]
  refine wpAnyH_take (i := 3) (oi := { dst := some 8, op := Op.load 22 (Operand.tmp 7), type := 22, pos := "vector.go:27", after := #[{ on := 2, ground := Ground.data }], guard := none }) (v := ?v4) rfl (by kernel_rfl) (by kernel_rfl) (by kernel_rfl) (fun _ _ _ h => h) (Or.inl ⟨by rfl, ?y4⟩) (by assumption) ?r4
  case y4 => (intro w hSw; (try dsimp only at hSw); (try (go_split_ands)); go_simp; try with_reducible rfl)
  try simp only [Act.put, List.setIfInBounds_toArray, List.set_cons_zero, List.set_cons_succ]
  refine wpAnyH_take (i := 5) (oi := { dst := some 10, op := Op.fieldAddr 30 (Operand.tmp 2) 1, type := 0, pos := "vector.go:27", after := #[], guard := none }) (v := ?v5) rfl (by kernel_rfl) (by kernel_rfl) (by kernel_rfl) (fun _ _ _ h => h) (Or.inl ⟨by rfl, ?y5⟩) (by assumption) ?r5
  case y5 => (intro w hSw; (try dsimp only at hSw); (try (go_split_ands)); go_simp; try with_reducible rfl)
  try simp only [Act.put, List.setIfInBounds_toArray, List.set_cons_zero, List.set_cons_succ]
  refine wpAnyH_take (i := 6) (oi := { dst := some 11, op := Op.load 22 (Operand.tmp 10), type := 22, pos := "vector.go:27", after := #[{ on := 5, ground := Ground.data }], guard := none }) (v := ?v6) rfl (by kernel_rfl) (by kernel_rfl) (by kernel_rfl) (fun _ _ _ h => h) (Or.inl ⟨by rfl, ?y6⟩) (by assumption) ?r6
  case y6 => (intro w hSw; (try dsimp only at hSw); (try (go_split_ands)); go_simp; try with_reducible rfl)
  try simp only [Act.put, List.setIfInBounds_toArray, List.set_cons_zero, List.set_cons_succ]
  refine wpAnyH_take (i := 7) (oi := { dst := some 12, op := Op.fieldAddr 30 (Operand.tmp 3) 1, type := 0, pos := "vector.go:27", after := #[], guard := none }) (v := ?v7) rfl (by kernel_rfl) (by kernel_rfl) (by kernel_rfl) (fun _ _ _ h => h) (Or.inl ⟨by rfl, ?y7⟩) (by assumption) ?r7
  case y7 => (intro w hSw; (try dsimp only at hSw); (try (go_split_ands)); go_simp; try with_reducible rfl)
  try simp only [Act.put, List.setIfInBounds_toArray, List.set_cons_zero, List.set_cons_succ]
  refine wpAnyH_take (i := 8) (oi := { dst := some 13, op := Op.load 22 (Operand.tmp 12), type := 22, pos := "vector.go:27", after := #[{ on := 7, ground := Ground.data }], guard := none }) (v := ?v8) rfl (by kernel_rfl) (by kernel_rfl) (by kernel_rfl) (fun _ _ _ h => h) (Or.inl ⟨by rfl, ?y8⟩) (by assumption) ?r8
  case y8 => (intro w hSw; (try dsimp only at hSw); (try (go_split_ands)); go_simp; try with_reducible rfl)
  try simp only [Act.put, List.setIfInBounds_toArray, List.set_cons_zero, List.set_cons_succ]
  refine wpAnyH_take (i := 10) (oi := { dst := some 15, op := Op.fieldAddr 30 (Operand.tmp 2) 2, type := 0, pos := "vector.go:27", after := #[], guard := none }) (v := ?v9) rfl (by kernel_rfl) (by kernel_rfl) (by kernel_rfl) (fun _ _ _ h => h) (Or.inl ⟨by rfl, ?y9⟩) (by assumption) ?r9
  case y9 => (intro w hSw; (try dsimp only at hSw); (try (go_split_ands)); go_simp; try with_reducible rfl)
  try simp only [Act.put, List.setIfInBounds_toArray, List.set_cons_zero, List.set_cons_succ]
  refine wpAnyH_take (i := 11) (oi := { dst := some 16, op := Op.load 22 (Operand.tmp 15), type := 22, pos := "vector.go:27", after := #[{ on := 10, ground := Ground.data }], guard := none }) (v := ?v10) rfl (by kernel_rfl) (by kernel_rfl) (by kernel_rfl) (fun _ _ _ h => h) (Or.inl ⟨by rfl, ?y10⟩) (by assumption) ?r10
  case y10 => (intro w hSw; (try dsimp only at hSw); (try (go_split_ands)); go_simp; try with_reducible rfl)
  try simp only [Act.put, List.setIfInBounds_toArray, List.set_cons_zero, List.set_cons_succ]
  refine wpAnyH_take (i := 12) (oi := { dst := some 17, op := Op.fieldAddr 30 (Operand.tmp 3) 2, type := 0, pos := "vector.go:27", after := #[], guard := none }) (v := ?v11) rfl (by kernel_rfl) (by kernel_rfl) (by kernel_rfl) (fun _ _ _ h => h) (Or.inl ⟨by rfl, ?y11⟩) (by assumption) ?r11
  case y11 => (intro w hSw; (try dsimp only at hSw); (try (go_split_ands)); go_simp; try with_reducible rfl)
  try simp only [Act.put, List.setIfInBounds_toArray, List.set_cons_zero, List.set_cons_succ]
  refine wpAnyH_take (i := 13) (oi := { dst := some 18, op := Op.load 22 (Operand.tmp 17), type := 22, pos := "vector.go:27", after := #[{ on := 12, ground := Ground.data }], guard := none }) (v := ?v12) rfl (by kernel_rfl) (by kernel_rfl) (by kernel_rfl) (fun _ _ _ h => h) (Or.inl ⟨by rfl, ?y12⟩) (by assumption) ?r12
  case y12 => (intro w hSw; (try dsimp only at hSw); (try (go_split_ands)); go_simp; try with_reducible rfl)
  try simp only [Act.put, List.setIfInBounds_toArray, List.set_cons_zero, List.set_cons_succ]
  refine wpAnyH_take (i := 15) (oi := { dst := some 20, op := Op.fieldAddr 30 (Operand.tmp 2) 3, type := 0, pos := "vector.go:27", after := #[], guard := none }) (v := ?v13) rfl (by kernel_rfl) (by kernel_rfl) (by kernel_rfl) (fun _ _ _ h => h) (Or.inl ⟨by rfl, ?y13⟩) (by assumption) ?r13
  case y13 => (intro w hSw; (try dsimp only at hSw); (try (go_split_ands)); go_simp; try with_reducible rfl)
  try simp only [Act.put, List.setIfInBounds_toArray, List.set_cons_zero, List.set_cons_succ]
  refine wpAnyH_take (i := 16) (oi := { dst := some 21, op := Op.load 3 (Operand.tmp 20), type := 3, pos := "vector.go:27", after := #[{ on := 15, ground := Ground.data }], guard := none }) (v := ?v14) rfl (by kernel_rfl) (by kernel_rfl) (by kernel_rfl) (fun _ _ _ h => h) (Or.inl ⟨by rfl, ?y14⟩) (by assumption) ?r14
  case y14 => (intro w hSw; (try dsimp only at hSw); (try (go_split_ands)); go_simp; try with_reducible rfl)
  try simp only [Act.put, List.setIfInBounds_toArray, List.set_cons_zero, List.set_cons_succ]
  refine wpAnyH_take (i := 17) (oi := { dst := some 22, op := Op.fieldAddr 30 (Operand.tmp 3) 3, type := 0, pos := "vector.go:27", after := #[], guard := none }) (v := ?v15) rfl (by kernel_rfl) (by kernel_rfl) (by kernel_rfl) (fun _ _ _ h => h) (Or.inl ⟨by rfl, ?y15⟩) (by assumption) ?r15
  case y15 => (intro w hSw; (try dsimp only at hSw); (try (go_split_ands)); go_simp; try with_reducible rfl)
  try simp only [Act.put, List.setIfInBounds_toArray, List.set_cons_zero, List.set_cons_succ]
  refine wpAnyH_take (i := 18) (oi := { dst := some 23, op := Op.load 3 (Operand.tmp 22), type := 3, pos := "vector.go:27", after := #[{ on := 17, ground := Ground.data }], guard := none }) (v := ?v16) rfl (by kernel_rfl) (by kernel_rfl) (by kernel_rfl) (fun _ _ _ h => h) (Or.inl ⟨by rfl, ?y16⟩) (by assumption) ?r16
  case y16 => (intro w hSw; (try dsimp only at hSw); (try (go_split_ands)); go_simp; try with_reducible rfl)
  try simp only [Act.put, List.setIfInBounds_toArray, List.set_cons_zero, List.set_cons_succ]
  refine wpAnyH_ready (rs := [4]) (by kernel_rfl) (by simp) ?_
  refine AllReadyH.cons (o := { dst := some 9, op := Op.call { callee := Callee.value (Operand.func 75), args := #[Operand.tmp 6, Operand.tmp 8], argTypes := #[22, 22] }, type := 3, pos := "vector.go:28", after := #[{ on := 1, ground := Ground.data }, { on := 3, ground := Ground.data }], guard := none }) rfl (fun K hK => ?_) AllReadyH.nil
  go_simp
  refine (h0.out _).mono ?_
  rintro e w2 ⟨rfl, rfl⟩
  go_wp2_with fail
  refine hK.out _ _ ?_ (fun hHeld4 => ?_)
  · exact ⟨below_drewN (Below.refl _ _) 1, hS.out _ (below_drewN (Below.refl _ _) 1)⟩
  clear hK K
  try simp only [Act.put, List.setIfInBounds_toArray, List.set_cons_zero, List.set_cons_succ]
  refine wpAnyH_ready (rs := [9]) (by kernel_rfl) (by simp) ?_
  refine AllReadyH.cons (o := { dst := some 14, op := Op.call { callee := Callee.value (Operand.func 75), args := #[Operand.tmp 11, Operand.tmp 13], argTypes := #[22, 22] }, type := 3, pos := "vector.go:29", after := #[{ on := 6, ground := Ground.data }, { on := 8, ground := Ground.data }, { on := 4, ground := Ground.chain }], guard := none }) rfl (fun K hK => ?_) AllReadyH.nil
  go_simp
  refine (h1.out _).mono ?_
  rintro e w2 ⟨rfl, rfl⟩
  go_wp2_with fail
  refine hK.out _ _ ?_ (fun hHeld9 => ?_)
  · exact ⟨below_drewN (Below.refl _ _) 1, hS.out _ (below_drewN (Below.refl _ _) 1)⟩
  clear hK K
  try simp only [Act.put, List.setIfInBounds_toArray, List.set_cons_zero, List.set_cons_succ]
  refine wpAnyH_ready (rs := [14]) (by kernel_rfl) (by simp) ?_
  refine AllReadyH.cons (o := { dst := some 19, op := Op.call { callee := Callee.value (Operand.func 75), args := #[Operand.tmp 16, Operand.tmp 18], argTypes := #[22, 22] }, type := 3, pos := "vector.go:30", after := #[{ on := 11, ground := Ground.data }, { on := 13, ground := Ground.data }, { on := 9, ground := Ground.chain }], guard := none }) rfl (fun K hK => ?_) AllReadyH.nil
  go_simp
  refine (h2.out _).mono ?_
  rintro e w2 ⟨rfl, rfl⟩
  go_wp2_with fail
  refine hK.out _ _ ?_ (fun hHeld14 => ?_)
  · exact ⟨below_drewN (Below.refl _ _) 1, hS.out _ (below_drewN (Below.refl _ _) 1)⟩
  clear hK K
  try simp only [Act.put, List.setIfInBounds_toArray, List.set_cons_zero, List.set_cons_succ]
  refine wpAnyH_ready (rs := [19]) (by kernel_rfl) (by simp) ?_
  refine AllReadyH.cons (o := { dst := some 24, op := Op.call { callee := Callee.value (Operand.func 76), args := #[Operand.tmp 21, Operand.tmp 23], argTypes := #[3, 3] }, type := 3, pos := "vector.go:31", after := #[{ on := 16, ground := Ground.data }, { on := 18, ground := Ground.data }, { on := 14, ground := Ground.chain }], guard := none }) rfl (fun K hK => ?_) AllReadyH.nil
  go_simp
  refine (h3.out _).mono ?_
  rintro e w2 ⟨rfl, rfl⟩
  go_wp2_with fail
  refine hK.out _ _ ?_ (fun hHeld19 => ?_)
  · exact ⟨below_drewN (Below.refl _ _) 1, hS.out _ (below_drewN (Below.refl _ _) 1)⟩
  clear hK K
  try simp only [Act.put, List.setIfInBounds_toArray, List.set_cons_zero, List.set_cons_succ]
  refine wpAnyH_ready (rs := [20]) (by kernel_rfl) (by simp) ?_
  refine AllReadyH.cons (o := { dst := some 25, op := Op.buildSlice 26 4 #[(0, Operand.tmp 9), (1, Operand.tmp 14), (2, Operand.tmp 19), (3, Operand.tmp 24)], type := 26, pos := "vector.go:27", after := #[{ on := 4, ground := Ground.data }, { on := 9, ground := Ground.data }, { on := 14, ground := Ground.data }, { on := 19, ground := Ground.data }], guard := none }) rfl (fun K hK => ?_) AllReadyH.nil
  go_simp
  have hb2 : Below w1.heap.size w1 (w1.alloc (.cells #[.int .i64 x0, .int .i64 x1, .int .i64 x2, .int .i64 x3] 3)).drew := below_drewN (below1 w1 _) 1
  have hN : (w1.alloc (.cells #[.int .i64 x0, .int .i64 x1, .int .i64 x2, .int .i64 x3] 3)).drew.heap[w1.heap.size]? = some (.cells #[.int .i64 x0, .int .i64 x1, .int .i64 x2, .int .i64 x3] 3) := heap_alloc_new w1 _
  refine hK.out _ _ ?_ (fun hHeld20 => ?_)
  · exact ⟨hb2, hS.out _ hb2⟩
  clear hK K
  try simp only [Act.put, List.setIfInBounds_toArray, List.set_cons_zero, List.set_cons_succ]
  generalize (w1.alloc (.cells #[.int .i64 x0, .int .i64 x1, .int .i64 x2, .int .i64 x3] 3)).drew = w2 at *
  refine wpAnyH_ready (rs := [21]) (by kernel_rfl) (by simp) ?_
  refine AllReadyH.cons (o := { dst := some 26, op := Op.call { callee := Callee.value (Operand.func 74), args := #[Operand.tmp 25], argTypes := #[26] }, type := 3, pos := "vector.go:27", after := #[{ on := 20, ground := Ground.data }, { on := 19, ground := Ground.chain }], guard := none }) rfl (fun K hK => ?_) AllReadyH.nil
  go_simp
  refine (Or_any w1.heap.size 0 4 4 [x0, x1, x2, x3] _ rfl (by omega) (hide fun i hi => ?_)).mono ?_
  · rw [cell_of_row _ _ _ _ _ _ hN]
    rcases (show i = 0 ∨ i = 1 ∨ i = 2 ∨ i = 3 by omega) with rfl | rfl | rfl | rfl <;> rfl
  rintro e w3 ⟨rfl, rfl⟩
  go_wp2_with fail
  refine hK.out _ _ ?_ (fun hHeld21 => ?_)
  · exact ⟨hb2, hS.out _ hb2⟩
  clear hK K
  try simp only [Act.put, List.setIfInBounds_toArray, List.set_cons_zero, List.set_cons_succ]
  refine wpAnyH_take (i := 22) (oi := { dst := some 4, op := Op.assign (Operand.tmp 26), type := 3, pos := "vector.go:27", after := #[{ on := 21, ground := Ground.data }, { on := 21, ground := Ground.chain }, { on := 0, ground := Ground.phase }, { on := 1, ground := Ground.phase }, { on := 2, ground := Ground.phase }, { on := 3, ground := Ground.phase }, { on := 4, ground := Ground.phase }, { on := 5, ground := Ground.phase }, { on := 6, ground := Ground.phase }, { on := 7, ground := Ground.phase }, { on := 8, ground := Ground.phase }, { on := 9, ground := Ground.phase }, { on := 10, ground := Ground.phase }, { on := 11, ground := Ground.phase }, { on := 12, ground := Ground.phase }, { on := 13, ground := Ground.phase }, { on := 14, ground := Ground.phase }, { on := 15, ground := Ground.phase }, { on := 16, ground := Ground.phase }, { on := 17, ground := Ground.phase }, { on := 18, ground := Ground.phase }, { on := 19, ground := Ground.phase }, { on := 20, ground := Ground.phase }, { on := 21, ground := Ground.phase }], guard := none }) (v := ?v17) rfl (by kernel_rfl) (by kernel_rfl) (by kernel_rfl) (fun _ _ _ h => h) (Or.inl ⟨by rfl, ?y17⟩) (by assumption) ?r17
  case y17 => (intro w hSw; (try dsimp only at hSw); (try (go_split_ands)); go_simp; try with_reducible rfl)
  try simp only [Act.put, List.setIfInBounds_toArray, List.set_cons_zero, List.set_cons_succ]
  refine wpAnyH_done (by kernel_rfl) ?_ _
  refine NoPanic.normal ?_
  go_wp2
  go_ret
  exact ⟨rfl, hb0.later hb2⟩
theorem cmpN_neg (a b : Vc) : cmpN a b = -1 ∨ cmpN a b = 0 ∨ cmpN a b = 1 := by
  unfold cmpN
  simp only [orL, ordN]
  repeat' split
  all_goals simp_all
def betB (a b : Vc) : Bool := decide (cmpN a b < 0)
theorem Better_any (a b : Vc) (w : World) : Calls Try.prog 63 #[.agg a.row, .agg b.row] w fun r w' => r = .returned (.bool (betB a b)) ∧ Below w.heap.size w w' := by
  unfold betB
  obtain ⟨a0, a1, a2, a3⟩ := a
  obtain ⟨b0, b1, b2, b3⟩ := b
  have hC := hide (fun w => Compare_any ⟨a0, a1, a2, a3⟩ ⟨b0, b1, b2, b3⟩ w)
  generalize cmpN ⟨a0, a1, a2, a3⟩ ⟨b0, b1, b2, b3⟩ = x at *
  go_enter Try.func63, Try.ntmps63
  go_wp2_with fail
  refine (hC.out _).mono ?_
  rintro e w2 ⟨rfl, hb2⟩
  go_wp2
  go_ret
  exact ⟨rfl, ((below1 _ _).later (below1 _ _)).later hb2⟩
end Go.Proofs.Ytoejoneecanbbaa
