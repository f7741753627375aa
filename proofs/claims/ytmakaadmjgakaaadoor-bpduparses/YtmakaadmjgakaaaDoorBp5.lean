/-
  Contracts of bpdu.bit and bpdu.flags. Conditions: those that each theorem names.
-/
import Derived.Test.YtmakaadmjgakaaaDoorBp4
import Derived.BigQuiet
import Derived.Deep.QuietTactic
namespace Go.Proofs.YtmakaadmjgakaaaDoor
open Go.RowKit
set_option linter.unusedVariables false

def b1 (b : Bool) : Int := if b then 1 else 0
theorem bit_any (b : Bool) (w : World) :
    Calls Tryd.prog 75 #[.bool b] w fun e w' => e = .returned (.int .u64 (b1 b)) ∧ w' = w := by
  cases b
  all_goals
    go_enter Tryd.func75, Tryd.ntmps75
    go_wp2
    go_ret
    exact ⟨rfl, rfl⟩
/-- The number of a message's flags. -/
def flagsN (b : Bp) : Int := b1 b.change + b1 b.proposal * 2 + b.role * 4 + b1 b.learning * 16 + b1 b.forwarding * 32 + b1 b.agreement * 64 + b1 b.ack * 128
theorem flags_val (c p l f a k : Bool) (r : Fin 4) : bits BinOp.or IntKind.u64 (bits BinOp.or IntKind.u64 (bits BinOp.or IntKind.u64 (bits BinOp.or IntKind.u64 (bits BinOp.or IntKind.u64 (bits BinOp.or IntKind.u64 (IntKind.u64.wrap (b1 c)) (IntKind.u64.wrap (b1 p * 2))) (((r.val : Nat) : Int) * 4)) (IntKind.u64.wrap (b1 l * 16))) (IntKind.u64.wrap (b1 f * 32))) (IntKind.u64.wrap (b1 a * 64))) (IntKind.u64.wrap (b1 k * 128)) = b1 c + b1 p * 2 + ((r.val : Nat) : Int) * 4 + b1 l * 16 + b1 f * 32 + b1 a * 64 + b1 k * 128 := by
  revert c p l f a k r
  decide +kernel
theorem flags_any (b : Bp) (w : World) (h0 : 0 ≤ b.role) (h3 : b.role ≤ 3) :
    Calls Tryd.prog 71 #[.agg b.row] w fun e w' => e = .returned (.int .u64 (flagsN b)) ∧ Below w.heap.size w w' := by
  have hN : Hid (flagsN b = b1 b.change + b1 b.proposal * 2 + b.role * 4 + b1 b.learning * 16 + b1 b.forwarding * 32 + b1 b.agreement * 64 + b1 b.ack * 128) := rfl
  generalize flagsN b = FN at *
  have hk := heap_alloc_new w (.cells b.row 41)
  have c5 : (w.alloc (.cells b.row 41)).cell? ⟨w.heap.size, 5, none⟩ = some (.bool b.change) := (cell_of_row _ _ _ _ _ _ hk).trans rfl
  have c6 : (w.alloc (.cells b.row 41)).cell? ⟨w.heap.size, 6, none⟩ = some (.bool b.ack) := (cell_of_row _ _ _ _ _ _ hk).trans rfl
  have c7 : (w.alloc (.cells b.row 41)).cell? ⟨w.heap.size, 7, none⟩ = some (.bool b.proposal) := (cell_of_row _ _ _ _ _ _ hk).trans rfl
  have c8 : (w.alloc (.cells b.row 41)).cell? ⟨w.heap.size, 8, none⟩ = some (.bool b.agreement) := (cell_of_row _ _ _ _ _ _ hk).trans rfl
  have c9 : (w.alloc (.cells b.row 41)).cell? ⟨w.heap.size, 9, none⟩ = some (.bool b.learning) := (cell_of_row _ _ _ _ _ _ hk).trans rfl
  have c10 : (w.alloc (.cells b.row 41)).cell? ⟨w.heap.size, 10, none⟩ = some (.bool b.forwarding) := (cell_of_row _ _ _ _ _ _ hk).trans rfl
  have c11 : (w.alloc (.cells b.row 41)).cell? ⟨w.heap.size, 11, none⟩ = some (.int .i64 b.role) := (cell_of_row _ _ _ _ _ _ hk).trans rfl
  have hbel := below1 w (.cells b.row 41)
  go_enter Tryd.func71, Tryd.ntmps71
  go_wp2_with fail
  generalize w.alloc (.cells b.row 41) = w0 at *
  clear hk
  go_quiet ((go_at_call 75; exact Calls.quiet_of_same (bit_any _ _)))
  go_wp2
  go_ret
  refine ⟨congrArg (fun z => Ending.returned (.int .u64 z)) ?_, below_drewN hbel _⟩
  rw [hN.out]
  have := flags_val b.change b.proposal b.learning b.forwarding b.agreement b.ack ⟨b.role.toNat, by omega⟩
  simp only [Int.toNat_of_nonneg h0] at this
  exact this
theorem flagsN_range (b : Bp) (h0 : 0 ≤ b.role) (h3 : b.role ≤ 3) : 0 ≤ flagsN b ∧ flagsN b < 256 := by
  have h : ∀ x, 0 ≤ b1 x ∧ b1 x ≤ 1 := fun x => by cases x <;> simp [b1]
  have := h b.change; have := h b.proposal; have := h b.learning; have := h b.forwarding; have := h b.agreement; have := h b.ack
  unfold flagsN
  omega
end Go.Proofs.YtmakaadmjgakaaaDoor
