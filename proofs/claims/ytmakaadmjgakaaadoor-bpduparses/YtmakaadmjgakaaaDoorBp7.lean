/-
  Contracts of bpdu.head and bpdu.told. Conditions: those that each theorem names.
-/
import Derived.Test.YtmakaadmjgakaaaDoorBp6
namespace Go.Proofs.YtmakaadmjgakaaaDoor
open Go.RowKit
set_option linter.unusedVariables false

def flatP (ps : List (Int × Int)) : List Value := ps.flatMap fun p => [.int .u64 p.1, .int .u64 p.2]
theorem flatP_at : ∀ (ps : List (Int × Int)) (i : Nat), i < ps.length → (flatP ps)[i * 2]? = some (.int .u64 (ps.getD i (0, 0)).1) ∧ (flatP ps)[i * 2 + 1]? = some (.int .u64 (ps.getD i (0, 0)).2)
  | [], i, h => by simp at h
  | p :: r, 0, _ => ⟨rfl, rfl⟩
  | p :: r, i + 1, h => by
    have ih := flatP_at r i (by simpa using h)
    have e : flatP (p :: r) = .int .u64 p.1 :: .int .u64 p.2 :: flatP r := rfl
    rw [e, show (i + 1) * 2 = i * 2 + 2 by omega]
    exact ih
/-- Pairs that are laid side by side. -/
theorem Prs.litN (w : World) (g : Nat) (ps : List (Int × Int)) (t : TypeId) (hg : g = w.heap.size) (hw : Wide ps) :
    Prs (w.alloc (.cells (flatP ps).toArray t)) (.slice (some ⟨g, 0, none⟩) ps.length ps.length) ps := by
  subst hg
  refine ⟨hw, some ⟨w.heap.size, 0, none⟩, ps.length, rfl, fun i hi => ⟨w.heap.size, 0, rfl, ?_, ?_⟩⟩
  · rw [World.cell?_alloc_new, Nat.zero_add, List.getElem?_toArray]; exact (flatP_at ps i hi).1
  · rw [World.cell?_alloc_new, Nat.zero_add, List.getElem?_toArray]; exact (flatP_at ps i hi).2

def headP (v c : Int) : List (Int × Int) := [(284575334400, 5), (v, 1), (c, 1)]
theorem headP_ok (v c : Int) (hv : 0 ≤ v ∧ v < 256) (hc : 0 ≤ c ∧ c < 256) : Wide (headP v c) ∧ Room (headP v c) := by
  constructor
  · intro p hp
    simp only [headP, List.mem_cons, List.not_mem_nil, or_false] at hp
    rcases hp with rfl | rfl | rfl <;> simp <;> omega
  · intro p hp
    simp only [headP, List.mem_cons, List.not_mem_nil, or_false] at hp
    rcases hp with rfl | rfl | rfl <;> simp <;> omega
theorem head_any (v c : Int) (w : World) (hv : 0 ≤ v ∧ v < 256) (hc : 0 ≤ c ∧ c < 256) :
    Calls Tryd.prog 52 #[.int .u64 v, .int .u64 c] w fun e w' => ∃ va n k, e = .returned (.slice va n k) ∧ Bs w' (.slice va n k) (nsL (headP v c)) ∧ Below w.heap.size w w' := by
  have hok := headP_ok v c hv hc
  have hN := hide (numbers_any (Prs.litN w w.heap.size (headP v c) 99 rfl hok.1) (by simp [headP]) hok.2)
  clear hok
  go_enter Tryd.func52, Tryd.ntmps52
  go_wp2_with fail
  refine hN.out.mono ?_
  rintro e w1 ⟨va, n, k, rfl, hB, hb⟩
  go_wp2
  go_ret
  exact ⟨va, n, k, rfl, hB, (below1 _ _).later hb⟩

def toldP (b : Bp) : List (Int × Int) := [(flagsN b, 1), (b.root, 8), (b.cost, 4), (b.bridge, 8), (b.port, 2), (b.age, 2), (b.maxAge, 2), (b.hello, 2), (b.delay, 2)]
/-- Numbers that have room in a message. -/
structure Bp.fits (b : Bp) : Prop where
  role : 0 ≤ b.role ∧ b.role ≤ 3
  root : 0 ≤ b.root ∧ b.root < 18446744073709551616
  cost : 0 ≤ b.cost ∧ b.cost < 4294967296
  bridge : 0 ≤ b.bridge ∧ b.bridge < 18446744073709551616
  port : 0 ≤ b.port ∧ b.port < 65536
  age : 0 ≤ b.age ∧ b.age < 65536
  maxAge : 0 ≤ b.maxAge ∧ b.maxAge < 65536
  hello : 0 ≤ b.hello ∧ b.hello < 65536
  delay : 0 ≤ b.delay ∧ b.delay < 65536
theorem toldP_ok (b : Bp) (h : b.fits) : Wide (toldP b) ∧ Room (toldP b) := by
  have h0 := flagsN_range b h.role.1 h.role.2
  have h1 := h.root; have h2 := h.cost; have h3 := h.bridge; have h4 := h.port; have h5 := h.age; have h6 := h.maxAge; have h7 := h.hello; have h8 := h.delay
  constructor
  all_goals
    intro p hp
    simp only [toldP, List.mem_cons, List.not_mem_nil, or_false] at hp
    rcases hp with rfl | rfl | rfl | rfl | rfl | rfl | rfl | rfl | rfl <;> simp <;> omega
theorem cell_later' {W w' : World} {p : Addr} {v : Value} (hb : Below W.heap.size W w') (h : W.cell? p = some v) : w'.cell? p = some v := by
  rw [hb.cell (block_lt_of_cell h)]; exact h
set_option maxRecDepth 20000 in
theorem told_any (b : Bp) (w : World) (h : b.fits) :
    Calls Tryd.prog 54 #[.agg b.row] w fun e w' => ∃ va n k, e = .returned (.slice va n k) ∧ Bs w' (.slice va n k) (nsL (toldP b)) ∧ Below w.heap.size w w' := by
  have hok := hide (toldP_ok b h)
  have hFl := hide (fun w => flags_any b w h.role.1 h.role.2)
  have hTP : Hid (toldP b = [(flagsN b, 1), (b.root, 8), (b.cost, 4), (b.bridge, 8), (b.port, 2), (b.age, 2), (b.maxAge, 2), (b.hello, 2), (b.delay, 2)]) := rfl
  have hk := heap_alloc_new w (.cells b.row 41)
  have hb0 := below1 w (.cells b.row 41)
  have w4 : IntKind.u64.wrap b.port = b.port := by rw [IntKind.wrap_u64]; exact Int.emod_eq_of_lt h.port.1 (by have := h.port.2; omega)
  have w5 : IntKind.u64.wrap b.age = b.age := by rw [IntKind.wrap_u64]; exact Int.emod_eq_of_lt h.age.1 (by have := h.age.2; omega)
  have w6 : IntKind.u64.wrap b.maxAge = b.maxAge := by rw [IntKind.wrap_u64]; exact Int.emod_eq_of_lt h.maxAge.1 (by have := h.maxAge.2; omega)
  have w7 : IntKind.u64.wrap b.hello = b.hello := by rw [IntKind.wrap_u64]; exact Int.emod_eq_of_lt h.hello.1 (by have := h.hello.2; omega)
  have w8 : IntKind.u64.wrap b.delay = b.delay := by rw [IntKind.wrap_u64]; exact Int.emod_eq_of_lt h.delay.1 (by have := h.delay.2; omega)
  clear h
  go_enter Tryd.func54, Tryd.ntmps54
  go_wp2_with fail
  generalize hw0 : w.alloc (.cells b.row 41) = w0 at *
  clear hw0
  have c1 : w0.cell? ⟨w.heap.size, 1, none⟩ = some (.int .u64 b.root) := (cell_of_row _ _ _ _ _ _ hk).trans rfl
  have c2 : w0.cell? ⟨w.heap.size, 2, none⟩ = some (.int .u64 b.cost) := (cell_of_row _ _ _ _ _ _ hk).trans rfl
  have c3 : w0.cell? ⟨w.heap.size, 3, none⟩ = some (.int .u64 b.bridge) := (cell_of_row _ _ _ _ _ _ hk).trans rfl
  have c4 : w0.cell? ⟨w.heap.size, 4, none⟩ = some (.int .i64 b.port) := (cell_of_row _ _ _ _ _ _ hk).trans rfl
  have c12 : w0.cell? ⟨w.heap.size, 12, none⟩ = some (.int .i64 b.age) := (cell_of_row _ _ _ _ _ _ hk).trans rfl
  have c13 : w0.cell? ⟨w.heap.size, 13, none⟩ = some (.int .i64 b.maxAge) := (cell_of_row _ _ _ _ _ _ hk).trans rfl
  have c14 : w0.cell? ⟨w.heap.size, 14, none⟩ = some (.int .i64 b.hello) := (cell_of_row _ _ _ _ _ _ hk).trans rfl
  have c15 : w0.cell? ⟨w.heap.size, 15, none⟩ = some (.int .i64 b.delay) := (cell_of_row _ _ _ _ _ _ hk).trans rfl
  refine wp_region_noPanic ?_
  refine wp_region_held_drew (S := fun W => Below w0.heap.size w0 W ∧ W.cell? ⟨w.heap.size, 1, none⟩ = some (.int .u64 b.root) ∧ W.cell? ⟨w.heap.size, 2, none⟩ = some (.int .u64 b.cost) ∧ W.cell? ⟨w.heap.size, 3, none⟩ = some (.int .u64 b.bridge) ∧ W.cell? ⟨w.heap.size, 4, none⟩ = some (.int .i64 b.port) ∧ W.cell? ⟨w.heap.size, 12, none⟩ = some (.int .i64 b.age) ∧ W.cell? ⟨w.heap.size, 13, none⟩ = some (.int .i64 b.maxAge) ∧ W.cell? ⟨w.heap.size, 14, none⟩ = some (.int .i64 b.hello) ∧ W.cell? ⟨w.heap.size, 15, none⟩ = some (.int .i64 b.delay)) (by kernel_rfl) ⟨below_drewN (Below.refl _ _) 1, cell_later' (below_drewN (Below.refl _ _) 1) c1, cell_later' (below_drewN (Below.refl _ _) 1) c2, cell_later' (below_drewN (Below.refl _ _) 1) c3, cell_later' (below_drewN (Below.refl _ _) 1) c4, cell_later' (below_drewN (Below.refl _ _) 1) c12, cell_later' (below_drewN (Below.refl _ _) 1) c13, cell_later' (below_drewN (Below.refl _ _) 1) c14, cell_later' (below_drewN (Below.refl _ _) 1) c15⟩ (fun hHeld => ?_)
  refine wpAnyH_take (i := 0) (oi := { dst := some 3, op := Op.load 41 (Operand.tmp 1), type := 41, pos := "bpdu.go:225", after := #[], guard := none }) (v := _) rfl (by kernel_rfl) (by kernel_rfl) (by kernel_rfl) (fun _ _ _ h => h) (yieldsIf_load_row rfl 41 _ rfl w.heap.size rfl 41 _ _ _ (fun W h => heap_kept h.1 hk) Tryd.underlying41 rfl (bpSize _)) (by assumption) ?_
  try simp only [Act.put, List.setIfInBounds_toArray, List.set_cons_zero, List.set_cons_succ]
  refine wpAnyH_take (i := 3) (oi := { dst := some 6, op := Op.fieldAddr 41 (Operand.tmp 1) 1, type := 0, pos := "bpdu.go:225", after := #[], guard := none }) (v := ?v1) rfl (by kernel_rfl) (by kernel_rfl) (by kernel_rfl) (fun _ _ _ h => h) (Or.inl ⟨by rfl, ?y1⟩) (by assumption) ?r1
  case y1 => (intro w hSw; (try dsimp only at hSw); (try (go_split_ands)); go_simp; try with_reducible rfl)
  try simp only [Act.put, List.setIfInBounds_toArray, List.set_cons_zero, List.set_cons_succ]
  refine wpAnyH_take (i := 4) (oi := { dst := some 7, op := Op.fieldAddr 39 (Operand.tmp 6) 0, type := 0, pos := "bpdu.go:225", after := #[{ on := 3, ground := Ground.data }], guard := none }) (v := ?v2) rfl (by kernel_rfl) (by kernel_rfl) (by kernel_rfl) (fun _ _ _ h => h) (Or.inl ⟨by rfl, ?y2⟩) (by assumption) ?r2
  case y2 => (intro w hSw; (try dsimp only at hSw); (try (go_split_ands)); go_simp; try with_reducible rfl)
  try simp only [Act.put, List.setIfInBounds_toArray, List.set_cons_zero, List.set_cons_succ]
  refine wpAnyH_take (i := 5) (oi := { dst := some 8, op := Op.load 37 (Operand.tmp 7), type := 37, pos := "bpdu.go:225", after := #[{ on := 4, ground := Ground.data }], guard := none }) (v := ?v3) rfl (by kernel_rfl) (by kernel_rfl) (by kernel_rfl) (fun _ _ _ h => h) (Or.inl ⟨by rfl, ?y3⟩) (by assumption) ?r3
  case y3 => (intro w hSw; (try dsimp only at hSw); (try (go_split_ands)); go_simp; try with_reducible rfl)
  try simp only [Act.put, List.setIfInBounds_toArray, List.set_cons_zero, List.set_cons_succ]
  refine wpAnyH_take (i := 6) (oi := { dst := some 9, op := Op.build 99 #[(0, Operand.tmp 8), (1, Operand.const (Value.int IntKind.u64 8))], type := 99, pos := "bpdu.go:225", after := #[{ on := 5, ground := Ground.data }], guard := none }) (v := ?v4) rfl (by kernel_rfl) (by kernel_rfl) (by kernel_rfl) (fun _ _ _ h => h) (Or.inl ⟨by rfl, ?y4⟩) (by assumption) ?r4
  case y4 => (intro w hSw; (try dsimp only at hSw); (try (go_split_ands)); go_simp; try with_reducible rfl)
  try simp only [Act.put, List.setIfInBounds_toArray, List.set_cons_zero, List.set_cons_succ]
  refine wpAnyH_take (i := 7) (oi := { dst := some 10, op := Op.fieldAddr 41 (Operand.tmp 1) 1, type := 0, pos := "bpdu.go:225", after := #[], guard := none }) (v := ?v5) rfl (by kernel_rfl) (by kernel_rfl) (by kernel_rfl) (fun _ _ _ h => h) (Or.inl ⟨by rfl, ?y5⟩) (by assumption) ?r5
  case y5 => (intro w hSw; (try dsimp only at hSw); (try (go_split_ands)); go_simp; try with_reducible rfl)
  try simp only [Act.put, List.setIfInBounds_toArray, List.set_cons_zero, List.set_cons_succ]
  refine wpAnyH_take (i := 8) (oi := { dst := some 11, op := Op.fieldAddr 39 (Operand.tmp 10) 1, type := 0, pos := "bpdu.go:225", after := #[{ on := 7, ground := Ground.data }], guard := none }) (v := ?v6) rfl (by kernel_rfl) (by kernel_rfl) (by kernel_rfl) (fun _ _ _ h => h) (Or.inl ⟨by rfl, ?y6⟩) (by assumption) ?r6
  case y6 => (intro w hSw; (try dsimp only at hSw); (try (go_split_ands)); go_simp; try with_reducible rfl)
  try simp only [Act.put, List.setIfInBounds_toArray, List.set_cons_zero, List.set_cons_succ]
  refine wpAnyH_take (i := 9) (oi := { dst := some 12, op := Op.load 37 (Operand.tmp 11), type := 37, pos := "bpdu.go:225", after := #[{ on := 8, ground := Ground.data }], guard := none }) (v := ?v7) rfl (by kernel_rfl) (by kernel_rfl) (by kernel_rfl) (fun _ _ _ h => h) (Or.inl ⟨by rfl, ?y7⟩) (by assumption) ?r7
  case y7 => (intro w hSw; (try dsimp only at hSw); (try (go_split_ands)); go_simp; try with_reducible rfl)
  try simp only [Act.put, List.setIfInBounds_toArray, List.set_cons_zero, List.set_cons_succ]
  refine wpAnyH_take (i := 10) (oi := { dst := some 13, op := Op.build 99 #[(0, Operand.tmp 12), (1, Operand.const (Value.int IntKind.u64 4))], type := 99, pos := "bpdu.go:225", after := #[{ on := 9, ground := Ground.data }], guard := none }) (v := ?v8) rfl (by kernel_rfl) (by kernel_rfl) (by kernel_rfl) (fun _ _ _ h => h) (Or.inl ⟨by rfl, ?y8⟩) (by assumption) ?r8
  case y8 => (intro w hSw; (try dsimp only at hSw); (try (go_split_ands)); go_simp; try with_reducible rfl)
  try simp only [Act.put, List.setIfInBounds_toArray, List.set_cons_zero, List.set_cons_succ]
  refine wpAnyH_take (i := 11) (oi := { dst := some 14, op := Op.fieldAddr 41 (Operand.tmp 1) 1, type := 0, pos := "bpdu.go:225", after := #[], guard := none }) (v := ?v9) rfl (by kernel_rfl) (by kernel_rfl) (by kernel_rfl) (fun _ _ _ h => h) (Or.inl ⟨by rfl, ?y9⟩) (by assumption) ?r9
  case y9 => (intro w hSw; (try dsimp only at hSw); (try (go_split_ands)); go_simp; try with_reducible rfl)
  try simp only [Act.put, List.setIfInBounds_toArray, List.set_cons_zero, List.set_cons_succ]
  refine wpAnyH_take (i := 12) (oi := { dst := some 15, op := Op.fieldAddr 39 (Operand.tmp 14) 2, type := 0, pos := "bpdu.go:225", after := #[{ on := 11, ground := Ground.data }], guard := none }) (v := ?v10) rfl (by kernel_rfl) (by kernel_rfl) (by kernel_rfl) (fun _ _ _ h => h) (Or.inl ⟨by rfl, ?y10⟩) (by assumption) ?r10
  case y10 => (intro w hSw; (try dsimp only at hSw); (try (go_split_ands)); go_simp; try with_reducible rfl)
  try simp only [Act.put, List.setIfInBounds_toArray, List.set_cons_zero, List.set_cons_succ]
  refine wpAnyH_take (i := 13) (oi := { dst := some 16, op := Op.load 37 (Operand.tmp 15), type := 37, pos := "bpdu.go:225", after := #[{ on := 12, ground := Ground.data }], guard := none }) (v := ?v11) rfl (by kernel_rfl) (by kernel_rfl) (by kernel_rfl) (fun _ _ _ h => h) (Or.inl ⟨by rfl, ?y11⟩) (by assumption) ?r11
  case y11 => (intro w hSw; (try dsimp only at hSw); (try (go_split_ands)); go_simp; try with_reducible rfl)
  try simp only [Act.put, List.setIfInBounds_toArray, List.set_cons_zero, List.set_cons_succ]
  refine wpAnyH_take (i := 14) (oi := { dst := some 17, op := Op.build 99 #[(0, Operand.tmp 16), (1, Operand.const (Value.int IntKind.u64 8))], type := 99, pos := "bpdu.go:225", after := #[{ on := 13, ground := Ground.data }], guard := none }) (v := ?v12) rfl (by kernel_rfl) (by kernel_rfl) (by kernel_rfl) (fun _ _ _ h => h) (Or.inl ⟨by rfl, ?y12⟩) (by assumption) ?r12
  case y12 => (intro w hSw; (try dsimp only at hSw); (try (go_split_ands)); go_simp; try with_reducible rfl)
  try simp only [Act.put, List.setIfInBounds_toArray, List.set_cons_zero, List.set_cons_succ]
  refine wpAnyH_take (i := 15) (oi := { dst := some 18, op := Op.fieldAddr 41 (Operand.tmp 1) 1, type := 0, pos := "bpdu.go:225", after := #[], guard := none }) (v := ?v13) rfl (by kernel_rfl) (by kernel_rfl) (by kernel_rfl) (fun _ _ _ h => h) (Or.inl ⟨by rfl, ?y13⟩) (by assumption) ?r13
  case y13 => (intro w hSw; (try dsimp only at hSw); (try (go_split_ands)); go_simp; try with_reducible rfl)
  try simp only [Act.put, List.setIfInBounds_toArray, List.set_cons_zero, List.set_cons_succ]
  refine wpAnyH_take (i := 16) (oi := { dst := some 19, op := Op.fieldAddr 39 (Operand.tmp 18) 3, type := 0, pos := "bpdu.go:225", after := #[{ on := 15, ground := Ground.data }], guard := none }) (v := ?v14) rfl (by kernel_rfl) (by kernel_rfl) (by kernel_rfl) (fun _ _ _ h => h) (Or.inl ⟨by rfl, ?y14⟩) (by assumption) ?r14
  case y14 => (intro w hSw; (try dsimp only at hSw); (try (go_split_ands)); go_simp; try with_reducible rfl)
  try simp only [Act.put, List.setIfInBounds_toArray, List.set_cons_zero, List.set_cons_succ]
  refine wpAnyH_take (i := 17) (oi := { dst := some 20, op := Op.load 3 (Operand.tmp 19), type := 3, pos := "bpdu.go:225", after := #[{ on := 16, ground := Ground.data }], guard := none }) (v := ?v15) rfl (by kernel_rfl) (by kernel_rfl) (by kernel_rfl) (fun _ _ _ h => h) (Or.inl ⟨by rfl, ?y15⟩) (by assumption) ?r15
  case y15 => (intro w hSw; (try dsimp only at hSw); (try (go_split_ands)); go_simp; try with_reducible rfl)
  try simp only [Act.put, List.setIfInBounds_toArray, List.set_cons_zero, List.set_cons_succ]
  refine wpAnyH_take (i := 18) (oi := { dst := some 21, op := Op.convert 3 37 (Operand.tmp 20), type := 37, pos := "bpdu.go:225", after := #[{ on := 17, ground := Ground.data }], guard := none }) (v := ?v16) rfl (by kernel_rfl) (by kernel_rfl) (by kernel_rfl) (fun _ _ _ h => h) (Or.inl ⟨by rfl, ?y16⟩) (by assumption) ?r16
  case y16 => (intro w hSw; (try dsimp only at hSw); (try (go_split_ands)); go_simp; try with_reducible rfl)
  try simp only [Act.put, List.setIfInBounds_toArray, List.set_cons_zero, List.set_cons_succ]
  refine wpAnyH_take (i := 19) (oi := { dst := some 22, op := Op.build 99 #[(0, Operand.tmp 21), (1, Operand.const (Value.int IntKind.u64 2))], type := 99, pos := "bpdu.go:225", after := #[{ on := 18, ground := Ground.data }], guard := none }) (v := ?v17) rfl (by kernel_rfl) (by kernel_rfl) (by kernel_rfl) (fun _ _ _ h => h) (Or.inl ⟨by rfl, ?y17⟩) (by assumption) ?r17
  case y17 => (intro w hSw; (try dsimp only at hSw); (try (go_split_ands)); go_simp; try with_reducible rfl)
  try simp only [Act.put, List.setIfInBounds_toArray, List.set_cons_zero, List.set_cons_succ]
  refine wpAnyH_take (i := 20) (oi := { dst := some 23, op := Op.fieldAddr 41 (Operand.tmp 1) 9, type := 0, pos := "bpdu.go:225", after := #[], guard := none }) (v := ?v18) rfl (by kernel_rfl) (by kernel_rfl) (by kernel_rfl) (fun _ _ _ h => h) (Or.inl ⟨by rfl, ?y18⟩) (by assumption) ?r18
  case y18 => (intro w hSw; (try dsimp only at hSw); (try (go_split_ands)); go_simp; try with_reducible rfl)
  try simp only [Act.put, List.setIfInBounds_toArray, List.set_cons_zero, List.set_cons_succ]
  refine wpAnyH_take (i := 21) (oi := { dst := some 24, op := Op.load 3 (Operand.tmp 23), type := 3, pos := "bpdu.go:225", after := #[{ on := 20, ground := Ground.data }], guard := none }) (v := ?v19) rfl (by kernel_rfl) (by kernel_rfl) (by kernel_rfl) (fun _ _ _ h => h) (Or.inl ⟨by rfl, ?y19⟩) (by assumption) ?r19
  case y19 => (intro w hSw; (try dsimp only at hSw); (try (go_split_ands)); go_simp; try with_reducible rfl)
  try simp only [Act.put, List.setIfInBounds_toArray, List.set_cons_zero, List.set_cons_succ]
  refine wpAnyH_take (i := 22) (oi := { dst := some 25, op := Op.convert 3 37 (Operand.tmp 24), type := 37, pos := "bpdu.go:225", after := #[{ on := 21, ground := Ground.data }], guard := none }) (v := ?v20) rfl (by kernel_rfl) (by kernel_rfl) (by kernel_rfl) (fun _ _ _ h => h) (Or.inl ⟨by rfl, ?y20⟩) (by assumption) ?r20
  case y20 => (intro w hSw; (try dsimp only at hSw); (try (go_split_ands)); go_simp; try with_reducible rfl)
  try simp only [Act.put, List.setIfInBounds_toArray, List.set_cons_zero, List.set_cons_succ]
  refine wpAnyH_take (i := 23) (oi := { dst := some 26, op := Op.build 99 #[(0, Operand.tmp 25), (1, Operand.const (Value.int IntKind.u64 2))], type := 99, pos := "bpdu.go:225", after := #[{ on := 22, ground := Ground.data }], guard := none }) (v := ?v21) rfl (by kernel_rfl) (by kernel_rfl) (by kernel_rfl) (fun _ _ _ h => h) (Or.inl ⟨by rfl, ?y21⟩) (by assumption) ?r21
  case y21 => (intro w hSw; (try dsimp only at hSw); (try (go_split_ands)); go_simp; try with_reducible rfl)
  try simp only [Act.put, List.setIfInBounds_toArray, List.set_cons_zero, List.set_cons_succ]
  refine wpAnyH_take (i := 24) (oi := { dst := some 27, op := Op.fieldAddr 41 (Operand.tmp 1) 10, type := 0, pos := "bpdu.go:225", after := #[], guard := none }) (v := ?v22) rfl (by kernel_rfl) (by kernel_rfl) (by kernel_rfl) (fun _ _ _ h => h) (Or.inl ⟨by rfl, ?y22⟩) (by assumption) ?r22
  case y22 => (intro w hSw; (try dsimp only at hSw); (try (go_split_ands)); go_simp; try with_reducible rfl)
  try simp only [Act.put, List.setIfInBounds_toArray, List.set_cons_zero, List.set_cons_succ]
  refine wpAnyH_take (i := 25) (oi := { dst := some 28, op := Op.load 3 (Operand.tmp 27), type := 3, pos := "bpdu.go:225", after := #[{ on := 24, ground := Ground.data }], guard := none }) (v := ?v23) rfl (by kernel_rfl) (by kernel_rfl) (by kernel_rfl) (fun _ _ _ h => h) (Or.inl ⟨by rfl, ?y23⟩) (by assumption) ?r23
  case y23 => (intro w hSw; (try dsimp only at hSw); (try (go_split_ands)); go_simp; try with_reducible rfl)
  try simp only [Act.put, List.setIfInBounds_toArray, List.set_cons_zero, List.set_cons_succ]
  refine wpAnyH_take (i := 26) (oi := { dst := some 29, op := Op.convert 3 37 (Operand.tmp 28), type := 37, pos := "bpdu.go:225", after := #[{ on := 25, ground := Ground.data }], guard := none }) (v := ?v24) rfl (by kernel_rfl) (by kernel_rfl) (by kernel_rfl) (fun _ _ _ h => h) (Or.inl ⟨by rfl, ?y24⟩) (by assumption) ?r24
  case y24 => (intro w hSw; (try dsimp only at hSw); (try (go_split_ands)); go_simp; try with_reducible rfl)
  try simp only [Act.put, List.setIfInBounds_toArray, List.set_cons_zero, List.set_cons_succ]
  refine wpAnyH_take (i := 27) (oi := { dst := some 30, op := Op.build 99 #[(0, Operand.tmp 29), (1, Operand.const (Value.int IntKind.u64 2))], type := 99, pos := "bpdu.go:225", after := #[{ on := 26, ground := Ground.data }], guard := none }) (v := ?v25) rfl (by kernel_rfl) (by kernel_rfl) (by kernel_rfl) (fun _ _ _ h => h) (Or.inl ⟨by rfl, ?y25⟩) (by assumption) ?r25
  case y25 => (intro w hSw; (try dsimp only at hSw); (try (go_split_ands)); go_simp; try with_reducible rfl)
  try simp only [Act.put, List.setIfInBounds_toArray, List.set_cons_zero, List.set_cons_succ]
  refine wpAnyH_take (i := 28) (oi := { dst := some 31, op := Op.fieldAddr 41 (Operand.tmp 1) 11, type := 0, pos := "bpdu.go:225", after := #[], guard := none }) (v := ?v26) rfl (by kernel_rfl) (by kernel_rfl) (by kernel_rfl) (fun _ _ _ h => h) (Or.inl ⟨by rfl, ?y26⟩) (by assumption) ?r26
  case y26 => (intro w hSw; (try dsimp only at hSw); (try (go_split_ands)); go_simp; try with_reducible rfl)
  try simp only [Act.put, List.setIfInBounds_toArray, List.set_cons_zero, List.set_cons_succ]
  refine wpAnyH_take (i := 29) (oi := { dst := some 32, op := Op.load 3 (Operand.tmp 31), type := 3, pos := "bpdu.go:225", after := #[{ on := 28, ground := Ground.data }], guard := none }) (v := ?v27) rfl (by kernel_rfl) (by kernel_rfl) (by kernel_rfl) (fun _ _ _ h => h) (Or.inl ⟨by rfl, ?y27⟩) (by assumption) ?r27
  case y27 => (intro w hSw; (try dsimp only at hSw); (try (go_split_ands)); go_simp; try with_reducible rfl)
  try simp only [Act.put, List.setIfInBounds_toArray, List.set_cons_zero, List.set_cons_succ]
  refine wpAnyH_take (i := 30) (oi := { dst := some 33, op := Op.convert 3 37 (Operand.tmp 32), type := 37, pos := "bpdu.go:225", after := #[{ on := 29, ground := Ground.data }], guard := none }) (v := ?v28) rfl (by kernel_rfl) (by kernel_rfl) (by kernel_rfl) (fun _ _ _ h => h) (Or.inl ⟨by rfl, ?y28⟩) (by assumption) ?r28
  case y28 => (intro w hSw; (try dsimp only at hSw); (try (go_split_ands)); go_simp; try with_reducible rfl)
  try simp only [Act.put, List.setIfInBounds_toArray, List.set_cons_zero, List.set_cons_succ]
  refine wpAnyH_take (i := 31) (oi := { dst := some 34, op := Op.build 99 #[(0, Operand.tmp 33), (1, Operand.const (Value.int IntKind.u64 2))], type := 99, pos := "bpdu.go:225", after := #[{ on := 30, ground := Ground.data }], guard := none }) (v := ?v29) rfl (by kernel_rfl) (by kernel_rfl) (by kernel_rfl) (fun _ _ _ h => h) (Or.inl ⟨by rfl, ?y29⟩) (by assumption) ?r29
  case y29 => (intro w hSw; (try dsimp only at hSw); (try (go_split_ands)); go_simp; try with_reducible rfl)
  try simp only [Act.put, List.setIfInBounds_toArray, List.set_cons_zero, List.set_cons_succ]
  refine wpAnyH_take (i := 32) (oi := { dst := some 35, op := Op.fieldAddr 41 (Operand.tmp 1) 12, type := 0, pos := "bpdu.go:225", after := #[], guard := none }) (v := ?v30) rfl (by kernel_rfl) (by kernel_rfl) (by kernel_rfl) (fun _ _ _ h => h) (Or.inl ⟨by rfl, ?y30⟩) (by assumption) ?r30
  case y30 => (intro w hSw; (try dsimp only at hSw); (try (go_split_ands)); go_simp; try with_reducible rfl)
  try simp only [Act.put, List.setIfInBounds_toArray, List.set_cons_zero, List.set_cons_succ]
  refine wpAnyH_take (i := 33) (oi := { dst := some 36, op := Op.load 3 (Operand.tmp 35), type := 3, pos := "bpdu.go:225", after := #[{ on := 32, ground := Ground.data }], guard := none }) (v := ?v31) rfl (by kernel_rfl) (by kernel_rfl) (by kernel_rfl) (fun _ _ _ h => h) (Or.inl ⟨by rfl, ?y31⟩) (by assumption) ?r31
  case y31 => (intro w hSw; (try dsimp only at hSw); (try (go_split_ands)); go_simp; try with_reducible rfl)
  try simp only [Act.put, List.setIfInBounds_toArray, List.set_cons_zero, List.set_cons_succ]
  refine wpAnyH_take (i := 34) (oi := { dst := some 37, op := Op.convert 3 37 (Operand.tmp 36), type := 37, pos := "bpdu.go:225", after := #[{ on := 33, ground := Ground.data }], guard := none }) (v := ?v32) rfl (by kernel_rfl) (by kernel_rfl) (by kernel_rfl) (fun _ _ _ h => h) (Or.inl ⟨by rfl, ?y32⟩) (by assumption) ?r32
  case y32 => (intro w hSw; (try dsimp only at hSw); (try (go_split_ands)); go_simp; try with_reducible rfl)
  try simp only [Act.put, List.setIfInBounds_toArray, List.set_cons_zero, List.set_cons_succ]
  refine wpAnyH_take (i := 35) (oi := { dst := some 38, op := Op.build 99 #[(0, Operand.tmp 37), (1, Operand.const (Value.int IntKind.u64 2))], type := 99, pos := "bpdu.go:225", after := #[{ on := 34, ground := Ground.data }], guard := none }) (v := ?v33) rfl (by kernel_rfl) (by kernel_rfl) (by kernel_rfl) (fun _ _ _ h => h) (Or.inl ⟨by rfl, ?y33⟩) (by assumption) ?r33
  case y33 => (intro w hSw; (try dsimp only at hSw); (try (go_split_ands)); go_simp; try with_reducible rfl)
  try simp only [Act.put, List.setIfInBounds_toArray, List.set_cons_zero, List.set_cons_succ]
  refine wpAnyH_ready (rs := [1]) (by kernel_rfl) (by simp) ?_
  refine AllReadyH.cons (o := { dst := some 4, op := Op.call { callee := Callee.value (Operand.func 71), args := #[Operand.tmp 3], argTypes := #[41] }, type := 37, pos := "bpdu.go:226", after := #[{ on := 0, ground := Ground.data }], guard := none }) rfl (fun K hK => ?_) AllReadyH.nil
  go_simp
  refine (hFl.out _).mono ?_
  rintro e w1 ⟨rfl, hb1⟩
  have hb1' : Below w0.heap.size w0 w1 := (below_drewN (Below.refl _ _) 1).later hb1
  go_wp2_with fail
  refine hK.out _ _ ?_ (fun hHeld1 => ?_)
  · exact ⟨hb1', cell_later' (hb1') c1, cell_later' (hb1') c2, cell_later' (hb1') c3, cell_later' (hb1') c4, cell_later' (hb1') c12, cell_later' (hb1') c13, cell_later' (hb1') c14, cell_later' (hb1') c15⟩
  clear hK K
  try simp only [Act.put, List.setIfInBounds_toArray, List.set_cons_zero, List.set_cons_succ]
  refine wpAnyH_take (i := 2) (oi := { dst := some 5, op := Op.build 99 #[(0, Operand.tmp 4), (1, Operand.const (Value.int IntKind.u64 1))], type := 99, pos := "bpdu.go:225", after := #[{ on := 1, ground := Ground.data }], guard := none }) (v := ?v34) rfl (by kernel_rfl) (by kernel_rfl) (by kernel_rfl) (fun _ _ _ h => h) (Or.inl ⟨by rfl, ?y34⟩) (by assumption) ?r34
  case y34 => (intro w hSw; (try dsimp only at hSw); (try (go_split_ands)); go_simp; try with_reducible rfl)
  try simp only [Act.put, List.setIfInBounds_toArray, List.set_cons_zero, List.set_cons_succ]
  refine wpAnyH_ready (rs := [36]) (by kernel_rfl) (by simp) ?_
  refine AllReadyH.cons (o := { dst := some 39, op := Op.buildSlice 119 9 #[(0, Operand.tmp 5), (1, Operand.tmp 9), (2, Operand.tmp 13), (3, Operand.tmp 17), (4, Operand.tmp 22), (5, Operand.tmp 26), (6, Operand.tmp 30), (7, Operand.tmp 34), (8, Operand.tmp 38)], type := 119, pos := "bpdu.go:225", after := #[{ on := 2, ground := Ground.data }, { on := 6, ground := Ground.data }, { on := 10, ground := Ground.data }, { on := 14, ground := Ground.data }, { on := 19, ground := Ground.data }, { on := 23, ground := Ground.data }, { on := 27, ground := Ground.data }, { on := 31, ground := Ground.data }, { on := 35, ground := Ground.data }], guard := none }) rfl (fun K hK => ?_) AllReadyH.nil
  go_simp
  have hb2' := hb1'.later (below1 w1 (.cells (flatP (toldP b)).toArray 99))
  refine hK.out _ _ ⟨hb2', cell_later' (hb2') c1, cell_later' (hb2') c2, cell_later' (hb2') c3, cell_later' (hb2') c4, cell_later' (hb2') c12, cell_later' (hb2') c13, cell_later' (hb2') c14, cell_later' (hb2') c15⟩ (fun hHeld36 => ?_)
  clear hK K
  try simp only [Act.put, List.setIfInBounds_toArray, List.set_cons_zero, List.set_cons_succ]
  refine wpAnyH_ready (rs := [37]) (by kernel_rfl) (by simp) ?_
  refine AllReadyH.cons (o := { dst := some 40, op := Op.call { callee := Callee.value (Operand.func 70), args := #[Operand.tmp 39], argTypes := #[119] }, type := 26, pos := "bpdu.go:225", after := #[{ on := 36, ground := Ground.data }, { on := 1, ground := Ground.chain }], guard := none }) rfl (fun K hK => ?_) AllReadyH.nil
  go_simp
  have hN := numbers_any (Prs.litN w1 w1.heap.size (toldP b) 99 rfl hok.out.1) (by simp [toldP]) hok.out.2
  refine hN.mono ?_
  rintro e w3 ⟨va, n, k, rfl, hB3, hb3⟩
  have hb3' := hb2'.later hb3
  go_wp2_with fail
  refine hK.out _ _ ?_ (fun hHeld37 => ?_)
  · exact ⟨hb3', cell_later' (hb3') c1, cell_later' (hb3') c2, cell_later' (hb3') c3, cell_later' (hb3') c4, cell_later' (hb3') c12, cell_later' (hb3') c13, cell_later' (hb3') c14, cell_later' (hb3') c15⟩
  clear hK K
  try simp only [Act.put, List.setIfInBounds_toArray, List.set_cons_zero, List.set_cons_succ]
  refine wpAnyH_take (i := 38) (oi := { dst := some 2, op := Op.assign (Operand.tmp 40), type := 26, pos := "bpdu.go:225", after := #[{ on := 37, ground := Ground.data }, { on := 37, ground := Ground.chain }, { on := 0, ground := Ground.phase }, { on := 1, ground := Ground.phase }, { on := 2, ground := Ground.phase }, { on := 3, ground := Ground.phase }, { on := 4, ground := Ground.phase }, { on := 5, ground := Ground.phase }, { on := 6, ground := Ground.phase }, { on := 7, ground := Ground.phase }, { on := 8, ground := Ground.phase }, { on := 9, ground := Ground.phase }, { on := 10, ground := Ground.phase }, { on := 11, ground := Ground.phase }, { on := 12, ground := Ground.phase }, { on := 13, ground := Ground.phase }, { on := 14, ground := Ground.phase }, { on := 15, ground := Ground.phase }, { on := 16, ground := Ground.phase }, { on := 17, ground := Ground.phase }, { on := 18, ground := Ground.phase }, { on := 19, ground := Ground.phase }, { on := 20, ground := Ground.phase }, { on := 21, ground := Ground.phase }, { on := 22, ground := Ground.phase }, { on := 23, ground := Ground.phase }, { on := 24, ground := Ground.phase }, { on := 25, ground := Ground.phase }, { on := 26, ground := Ground.phase }, { on := 27, ground := Ground.phase }, { on := 28, ground := Ground.phase }, { on := 29, ground := Ground.phase }, { on := 30, ground := Ground.phase }, { on := 31, ground := Ground.phase }, { on := 32, ground := Ground.phase }, { on := 33, ground := Ground.phase }, { on := 34, ground := Ground.phase }, { on := 35, ground := Ground.phase }, { on := 36, ground := Ground.phase }, { on := 37, ground := Ground.phase }], guard := none }) (v := ?v35) rfl (by kernel_rfl) (by kernel_rfl) (by kernel_rfl) (fun _ _ _ h => h) (Or.inl ⟨by rfl, ?y35⟩) (by assumption) ?r35
  case y35 => (intro w hSw; (try dsimp only at hSw); (try (go_split_ands)); go_simp; try with_reducible rfl)
  try simp only [Act.put, List.setIfInBounds_toArray, List.set_cons_zero, List.set_cons_succ]
  refine wpAnyH_done (by kernel_rfl) ?_ _
  refine NoPanic.normal ?_
  go_wp2
  go_ret
  exact ⟨va, n, k, rfl, hB3, hb0.later hb3'⟩
end Go.Proofs.YtmakaadmjgakaaaDoor
