/-
  A message of the spanning tree, field by field; two are the same just if each field is; contracts of bpdu's small functions. Conditions: those that each theorem names.
-/
import Derived.Test.YtmakaadmjgakaaaDoorHdEq
namespace Go.Proofs.YtmakaadmjgakaaaDoor
open Go.RowKit
set_option linter.unusedVariables false

/-- What a message tells. -/
structure Bp where
  (kind root cost bridge port : Int) (change ack proposal agreement learning forwarding : Bool) (role age maxAge hello delay : Int)
  deriving DecidableEq
@[reducible] def Bp.row (b : Bp) : Array Value := #[.int .i64 b.kind, .int .u64 b.root, .int .u64 b.cost, .int .u64 b.bridge, .int .i64 b.port, .bool b.change, .bool b.ack, .bool b.proposal, .bool b.agreement, .bool b.learning, .bool b.forwarding, .int .i64 b.role, .int .i64 b.age, .int .i64 b.maxAge, .int .i64 b.hello, .int .i64 b.delay]
@[reducible] def Bp.zero : Bp := ⟨0, 0, 0, 0, 0, false, false, false, false, false, false, 0, 0, 0, 0, 0⟩
def U64 (n : Int) : Prop := 0 ≤ n ∧ n ≤ 18446744073709551615
structure Bp.wf (b : Bp) : Prop where
  kind : I64 b.kind
  root : U64 b.root
  cost : U64 b.cost
  bridge : U64 b.bridge
  port : I64 b.port
  role : I64 b.role
  age : I64 b.age
  maxAge : I64 b.maxAge
  hello : I64 b.hello
  delay : I64 b.delay
theorem wf_u64 {n : Int} (h : U64 n) : (Lit.int .u64 n).wf = true := by unfold U64 at h; simp [Lit.wf, IntKind.min, IntKind.max, IntKind.signed, IntKind.bits]; omega
def Bp.lits (b : Bp) : List Lit := [.int .i64 b.kind, .int .u64 b.root, .int .u64 b.cost, .int .u64 b.bridge, .int .i64 b.port, .bool b.change, .bool b.ack, .bool b.proposal, .bool b.agreement, .bool b.learning, .bool b.forwarding, .int .i64 b.role, .int .i64 b.age, .int .i64 b.maxAge, .int .i64 b.hello, .int .i64 b.delay]
theorem u64_lits (d : Nat) (n : Int) (h : U64 n) : Tryd.prog.keyLits (d + 1) 37 [.int .u64 n] = some [.int .u64 n] := by
  simp [Program.keyLits, Tryd.underlying37, wf_u64 h]
theorem cells_u64 : Tryd.prog.cellsOf 37 = 1 := by kernel_rfl
theorem cells_vec : Tryd.prog.cellsOf 39 = 4 := by kernel_rfl
theorem cells_bp : Tryd.prog.cellsOf 41 = 16 := by kernel_rfl
theorem vec_lits (d : Nat) (a b c e : Int) (ha : U64 a) (hb : U64 b) (hc : U64 c) (he : I64 e) : Tryd.prog.keyLits (d + 2) 39 [.int .u64 a, .int .u64 b, .int .u64 c, .int .i64 e] = some [.int .u64 a, .int .u64 b, .int .u64 c, .int .i64 e] := by
  have h1 := u64_lits d a ha
  have h2 := u64_lits d b hb
  have h3 := u64_lits d c hc
  have h4 := int_lits d e he
  unfold Program.keyLits
  rw [Tryd.underlying39]
  simp [cells_vec, cells_u64, cells_int, h1, h2, h3, h4]
theorem bp_lits (d : Nat) (b : Bp) (hw : b.wf) : Tryd.prog.keyLits (d + 3) 41 b.row.toList = some b.lits := by
  have h0 := int_lits (d + 1) _ hw.kind
  have h1 := vec_lits d _ _ _ _ hw.root hw.cost hw.bridge hw.port
  have h2 := int_lits (d + 1) _ hw.role
  have h3 := int_lits (d + 1) _ hw.age
  have h4 := int_lits (d + 1) _ hw.maxAge
  have h5 := int_lits (d + 1) _ hw.hello
  have h6 := int_lits (d + 1) _ hw.delay
  unfold Program.keyLits
  rw [Tryd.underlying41]
  simp [cells_vec, cells_int, cells_bool, cells_bp, h0, h1, h2, h3, h4, h5, h6, bool_lits, Bp.lits]
theorem bplits_inj {a b : Bp} (h : a.lits = b.lits) : a = b := by
  obtain ⟨a0, a1, a2, a3, a4, a5, a6, a7, a8, a9, a10, a11, a12, a13, a14, a15⟩ := a
  obtain ⟨b0, b1, b2, b3, b4, b5, b6, b7, b8, b9, b10, b11, b12, b13, b14, b15⟩ := b
  simp [Bp.lits] at h
  simp [h]
theorem bp_equal (a b : Bp) (ha : a.wf) (hb : b.wf) (w : World) : (Op.equalIn 10000 41 (.agg a.row) (.agg b.row)).run Tryd.prog w = .ok (decide (a = b)) w := by
  obtain ⟨r, h1, h2⟩ := run_equalIn_deep (P := Tryd.prog) 9997 3 41 (by kernel_rfl) w 3 3 (.agg a.row) (.agg b.row) a.lits b.lits (by kernel_rfl) (by kernel_rfl) (bp_lits 0 a ha) (bp_lits 0 b hb)
  refine h1.trans (congrArg (fun r => Result.ok r w) ?_)
  rw [Bool.eq_iff_iff, decide_eq_true_eq]
  exact h2.trans ⟨bplits_inj, fun e => by rw [e]⟩
theorem bp_eql (a b : Bp) (ha : a.wf) (hb : b.wf) (w : World) : (binOp .eql 41 (.agg a.row) (.agg b.row)).run Tryd.prog w = .ok (.bool (decide (a = b))) w := by
  rw [run_eql_struct, bp_equal a b ha hb]; rfl
theorem bp_neq (a b : Bp) (ha : a.wf) (hb : b.wf) (w : World) : (binOp .neq 41 (.agg a.row) (.agg b.row)).run Tryd.prog w = .ok (.bool (!decide (a = b))) w := by
  rw [run_neq_struct, bp_equal a b ha hb]; rfl
theorem eqGuard_bp : Tryd.prog.eqGuardType Tryd.prog.depth 41 = false := by kernel_rfl
theorem bpSize (b : Bp) : (Tryd.prog.info? 41).map (·.size) = some b.row.size := by kernel_rfl
theorem Bp.row_all (b : Bp) : b.row.all (·.oneCell') = true := by simp [Value.oneCell']

def tellsB (b : Bp) : Bool := b.proposal || b.agreement || b.learning || b.forwarding || (b.role != 0)
theorem tellsOfPort_any (b : Bp) (w : World) :
    Calls Tryd.prog 51 #[.agg b.row] w fun e w' => e = .returned (.bool (tellsB b)) ∧ Below w.heap.size w w' := by
  obtain ⟨a0, a1, a2, a3, a4, a5, a6, a7, a8, a9, a10, a11, a12, a13, a14, a15⟩ := b
  cases a7 <;> cases a8 <;> cases a9 <;> cases a10
  all_goals
    go_enter Tryd.func51, Tryd.ntmps51
    go_wp2
    go_ret
    exact ⟨by simp [tellsB], below1 _ _⟩
theorem sizeOf_any (k : Int) (w : World) :
    Calls Tryd.prog 44 #[.int .i64 k] w fun e w' => e = .returned (.int .i64 (if k = 2 then 7 else if k = 1 then 39 else 38)) ∧ w' = w := by
  by_cases h2 : k = 2
  · subst h2
    go_enter Tryd.func44, Tryd.ntmps44
    go_wp2
    go_ret
    exact ⟨rfl, rfl⟩
  · by_cases h1 : k = 1
    · subst h1
      go_enter Tryd.func44, Tryd.ntmps44
      go_wp2
      go_ret
      exact ⟨rfl, rfl⟩
    · rw [if_neg h2, if_neg h1]
      have h2' : (k == 2) = false := by simpa using h2
      have h1' : (k == 1) = false := by simpa using h1
      go_enter Tryd.func44, Tryd.ntmps44
      go_wp2
      go_ret
      exact ⟨rfl, rfl⟩
end Go.Proofs.YtmakaadmjgakaaaDoor
