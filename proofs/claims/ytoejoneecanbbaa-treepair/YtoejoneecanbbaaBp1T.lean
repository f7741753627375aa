
/-
  A message of the spanning tree, field by field; two are the same just if each field is; contracts of bpdu's small functions. Conditions: those that each theorem names.
-/
import Derived.Test.YtoejoneecanbbaaVec2
namespace Go.Proofs.Ytoejoneecanbbaa
open Go.RowKit
set_option linter.unusedVariables false

/-- What a message tells. -/
structure Bp where
  (kind root cost bridge port : Int) (change ack proposal agreement learning forwarding : Bool) (role age maxAge hello delay : Int)
  deriving DecidableEq
@[reducible] def Bp.row (b : Bp) : Array Value := #[.int .i64 b.kind, .int .u64 b.root, .int .u64 b.cost, .int .u64 b.bridge, .int .i64 b.port, .bool b.change, .bool b.ack, .bool b.proposal, .bool b.agreement, .bool b.learning, .bool b.forwarding, .int .i64 b.role, .int .i64 b.age, .int .i64 b.maxAge, .int .i64 b.hello, .int .i64 b.delay]
@[reducible] def Bp.zero : Bp := ⟨0, 0, 0, 0, 0, false, false, false, false, false, false, 0, 0, 0, 0, 0⟩
structure Bp.wf (b : Bp) : Prop where
  kind : I64 b.kind
  root : U64 b.root
  cost : U64 b.cost
  bridge : U64 b.bridge
  port : I64 b.port
  role : I64 b.role
  age : I64 b.age
  maxAge : I64 b.maxAge
  hello : I64 b.hello
  delay : I64 b.delay
def Bp.lits (b : Bp) : List Lit := [.int .i64 b.kind, .int .u64 b.root, .int .u64 b.cost, .int .u64 b.bridge, .int .i64 b.port, .bool b.change, .bool b.ack, .bool b.proposal, .bool b.agreement, .bool b.learning, .bool b.forwarding, .int .i64 b.role, .int .i64 b.age, .int .i64 b.maxAge, .int .i64 b.hello, .int .i64 b.delay]
theorem cells_boolT : Try.prog.cellsOf 4 = 1 := by kernel_rfl
theorem bool_lits (d : Nat) (b : Bool) : Try.prog.keyLits (d + 1) 4 [.bool b] = some [.bool b] := by
  simp [Program.keyLits, Try.underlying4]
theorem cells_bp : Try.prog.cellsOf 40 = 16 := by kernel_rfl
theorem bp_lits (d : Nat) (b : Bp) (hw : b.wf) : Try.prog.keyLits (d + 3) 40 b.row.toList = some b.lits := by
  have h0 := int_lits (d + 1) _ hw.kind
  have h1 := vec_lits d ⟨b.root, b.cost, b.bridge, b.port⟩ ⟨hw.root, hw.cost, hw.bridge, hw.port⟩
  have h2 := int_lits (d + 1) _ hw.role
  have h3 := int_lits (d + 1) _ hw.age
  have h4 := int_lits (d + 1) _ hw.maxAge
  have h5 := int_lits (d + 1) _ hw.hello
  have h6 := int_lits (d + 1) _ hw.delay
  unfold Program.keyLits
  rw [Try.underlying40]
  simp [cells_vec, cells_int, cells_boolT, cells_bp, h0, h1, h2, h3, h4, h5, h6, bool_lits, Bp.lits, Vc.lits]
theorem bplits_inj {a b : Bp} (h : a.lits = b.lits) : a = b := by
  obtain ⟨a0, a1, a2, a3, a4, a5, a6, a7, a8, a9, a10, a11, a12, a13, a14, a15⟩ := a
  obtain ⟨b0, b1, b2, b3, b4, b5, b6, b7, b8, b9, b10, b11, b12, b13, b14, b15⟩ := b
  simp [Bp.lits] at h
  simp [h]
theorem bp_equal (a b : Bp) (ha : a.wf) (hb : b.wf) (w : World) : (Op.equalIn 10000 40 (.agg a.row) (.agg b.row)).run Try.prog w = .ok (decide (a = b)) w := by
  obtain ⟨r, h1, h2⟩ := run_equalIn_deep (P := Try.prog) 9997 3 40 (by kernel_rfl) w 3 3 (.agg a.row) (.agg b.row) a.lits b.lits (by kernel_rfl) (by kernel_rfl) (bp_lits 0 a ha) (bp_lits 0 b hb)
  refine h1.trans (congrArg (fun r => Result.ok r w) ?_)
  rw [Bool.eq_iff_iff, decide_eq_true_eq]
  exact h2.trans ⟨bplits_inj, fun e => by rw [e]⟩
theorem bp_eql (a b : Bp) (ha : a.wf) (hb : b.wf) (w : World) : (binOp .eql 40 (.agg a.row) (.agg b.row)).run Try.prog w = .ok (.bool (decide (a = b))) w := by
  rw [run_eql_struct, bp_equal a b ha hb]; rfl
theorem bp_neq (a b : Bp) (ha : a.wf) (hb : b.wf) (w : World) : (binOp .neq 40 (.agg a.row) (.agg b.row)).run Try.prog w = .ok (.bool (!decide (a = b))) w := by
  rw [run_neq_struct, bp_equal a b ha hb]; rfl
theorem eqGuard_bp : Try.prog.eqGuardType Try.prog.depth 40 = false := by kernel_rfl
theorem bpSize (b : Bp) : (Try.prog.info? 40).map (·.size) = some b.row.size := by kernel_rfl
theorem Bp.row_all (b : Bp) : b.row.all (·.oneCell') = true := by simp [Value.oneCell']

def tellsB (b : Bp) : Bool := b.proposal || b.agreement || b.learning || b.forwarding || (b.role != 0)
theorem tellsOfPort_any (b : Bp) (w : World) :
    Calls Try.prog 31 #[.agg b.row] w fun e w' => e = .returned (.bool (tellsB b)) ∧ Below w.heap.size w w' := by
  obtain ⟨a0, a1, a2, a3, a4, a5, a6, a7, a8, a9, a10, a11, a12, a13, a14, a15⟩ := b
  cases a7 <;> cases a8 <;> cases a9 <;> cases a10
  all_goals
    go_enter Try.func31, Try.ntmps31
    go_wp2
    go_ret
    exact ⟨by simp [tellsB], below1 _ _⟩
end Go.Proofs.Ytoejoneecanbbaa
