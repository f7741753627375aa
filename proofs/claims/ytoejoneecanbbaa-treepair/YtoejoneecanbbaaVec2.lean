
/-
  Contracts of vector's other functions. Conditions: those that each theorem names.
-/
import Derived.Test.YtoejoneecanbbaaVec1
namespace Go.Proofs.Ytoejoneecanbbaa
open Go.RowKit
set_option linter.unusedVariables false

theorem vecSize (v : Vc) : (Try.prog.info? 30).map (·.size) = some v.row.size := by kernel_rfl
theorem Vc.row_all (v : Vc) : v.row.all (·.oneCell') = true := by simp [Value.oneCell']
def overN (c d : Int) : Int := if c > 4294967295 then 4294967295 else if d > 4294967295 - c then 4294967295 else c + d
theorem Over_any (v : Vc) (d : Int) (w : World) (hv : U64 v.cost) (hd : U64 d) : Calls Try.prog 68 #[.agg v.row, .int .u64 d] w fun r w' => r = .returned (.agg (Vc.row ⟨v.root, overN v.cost d, v.bridge, v.port⟩)) ∧ Below w.heap.size w w' := by
  obtain ⟨a0, a1, a2, a3⟩ := v
  obtain ⟨hv0, hv1⟩ := hv
  obtain ⟨hd0, hd1⟩ := hd
  dsimp only at *
  unfold overN
  go_enter Try.func68, Try.ntmps68
  by_cases h1 : a1 > 4294967295
  · rw [if_pos h1]
    go_wp2
    exact bodyPost_ret (results_cell_row rfl _ _ (w.heap.size + 1) 30 _ _ _ rfl (heap_alloc2_newB _ _ _) Try.underlying30 rfl (vecSize Vc.zero)) rfl ⟨rfl, (below1 _ _).later (below1 _ _)⟩
  · rw [if_neg h1]
    by_cases h2 : d > 4294967295 - a1
    · rw [if_pos h2]
      go_wp2
      exact bodyPost_ret (results_cell_row rfl _ _ (w.heap.size + 1) 30 _ _ _ rfl (heap_alloc2_newB _ _ _) Try.underlying30 rfl (vecSize Vc.zero)) rfl ⟨rfl, (below1 _ _).later (below1 _ _)⟩
    · rw [if_neg h2]
      go_wp2
      exact bodyPost_ret (results_cell_row rfl _ _ (w.heap.size + 1) 30 _ _ _ rfl (heap_alloc2_newB _ _ _) Try.underlying30 rfl (vecSize Vc.zero)) rfl ⟨rfl, (below1 _ _).later (below1 _ _)⟩
theorem Own_any (b p : Int) (w : World) : Calls Try.prog 67 #[.int .u64 b, .int .i64 p] w fun r w' => r = .returned (.agg (Vc.row ⟨b, 0, b, p⟩)) ∧ Below w.heap.size w w' := by
  go_enter Try.func67, Try.ntmps67
  go_wp2
  exact bodyPost_ret (results_cell_row rfl _ _ w.heap.size 30 _ _ _ rfl (heap_alloc_new _ _) Try.underlying30 rfl (vecSize Vc.zero)) rfl ⟨rfl, below1 _ _⟩
theorem wrap_i64_62 (n : Int) (h0 : 0 ≤ n) (h : n < 2 ^ 62) : IntKind.i64.wrap n = n := by
  have : (2 : Int) ^ 62 = 4611686018427387904 := by decide
  simp only [IntKind.wrap, IntKind.signed, IntKind.bits]
  go_num
theorem int_beq (a b : Int) : (a == b) = decide (a = b) := by
  rw [Bool.eq_iff_iff, beq_iff_eq, decide_eq_true_eq]
def supB (t u : Vc) : Bool := betB t u || (decide (t.bridge = u.bridge) && decide (t.port = u.port))
theorem Sup_any (t u : Vc) (w : World) : Calls Try.prog 60 #[.agg t.row, .agg u.row] w fun r w' => r = .returned (.bool (supB t u)) ∧ Below w.heap.size w w' := by
  have hP : Hid (supB t u = (betB t u || (decide (t.bridge = u.bridge) && decide (t.port = u.port)))) := rfl
  generalize supB t u = x at *
  obtain ⟨a0, a1, a2, a3⟩ := t
  obtain ⟨b0, b1, b2, b3⟩ := u
  have hC := hide (fun w => Better_any ⟨a0, a1, a2, a3⟩ ⟨b0, b1, b2, b3⟩ w)
  generalize betB ⟨a0, a1, a2, a3⟩ ⟨b0, b1, b2, b3⟩ = y at *
  have hA := heap_alloc2_oldB w (.cells (Vc.row ⟨a0, a1, a2, a3⟩) 30) (.cells (Vc.row ⟨b0, b1, b2, b3⟩) 30)
  have hB := heap_alloc2_newB w (.cells (Vc.row ⟨a0, a1, a2, a3⟩) 30) (.cells (Vc.row ⟨b0, b1, b2, b3⟩) 30)
  have hb0 : Below w.heap.size w ((w.alloc (.cells (Vc.row ⟨a0, a1, a2, a3⟩) 30)).alloc (.cells (Vc.row ⟨b0, b1, b2, b3⟩) 30)) := (below1 _ _).later (below1 _ _)
  go_enter Try.func60, Try.ntmps60
  go_wp2_with fail
  refine (hC.out _).mono ?_
  rintro e w2 ⟨rfl, hb2⟩
  have hA2 := heap_kept hb2 hA
  have hB2 := heap_kept hb2 hB
  have hb := hide (hb0.later hb2)
  clear hA hB hb0 hb2 hC
  have c2 : w2.cell? ⟨w.heap.size, 2, none⟩ = some (.int .u64 a2) := (cell_of_row _ _ _ _ _ _ hA2).trans rfl
  have c3 : w2.cell? ⟨w.heap.size, 3, none⟩ = some (.int .i64 a3) := (cell_of_row _ _ _ _ _ _ hA2).trans rfl
  have d2 : w2.cell? ⟨w.heap.size + 1, 2, none⟩ = some (.int .u64 b2) := (cell_of_row _ _ _ _ _ _ hB2).trans rfl
  have d3 : w2.cell? ⟨w.heap.size + 1, 3, none⟩ = some (.int .i64 b3) := (cell_of_row _ _ _ _ _ _ hB2).trans rfl
  clear hA2 hB2
  cases y
  · by_cases h1 : a2 = b2
    · subst h1
      go_wp2
      go_ret
      refine ⟨ret_bool ?_, hb.out⟩
      rw [hP.out]
      simp [int_beq]
    · go_wp2
      go_ret
      refine ⟨ret_bool ?_, hb.out⟩
      rw [hP.out]
      simp [h1]
  · go_wp2
    go_ret
    exact ⟨ret_bool hP.out.symm, hb.out⟩
/-- A row of vectors in memory. -/
def Vcs (w : World) (a : Option Addr) (n : Nat) (vs : List Vc) : Prop := ∀ i, i < n → ∃ b off, a = some ⟨b, off, none⟩ ∧ w.cell? ⟨b, off + i * 4, none⟩ = some (.int .u64 (vs.getD i Vc.zero).root) ∧ w.cell? ⟨b, off + i * 4 + 1, none⟩ = some (.int .u64 (vs.getD i Vc.zero).cost) ∧
  w.cell? ⟨b, off + i * 4 + 2, none⟩ = some (.int .u64 (vs.getD i Vc.zero).bridge) ∧ w.cell? ⟨b, off + i * 4 + 3, none⟩ = some (.int .i64 (vs.getD i Vc.zero).port) ∧ (vs.getD i Vc.zero).wf
theorem Vcs.below {w w' : World} {a : Option Addr} {n : Nat} {vs : List Vc} (h : Vcs w a n vs) (hb : Below w.heap.size w w') : Vcs w' a n vs := by
  intro i hi
  obtain ⟨b, off, rfl, h1, h2, h3, h4, h5⟩ := h i hi
  have hl := block_lt_of_cell h1
  refine ⟨b, off, rfl, ?_, ?_, ?_, ?_, h5⟩
  · rw [hb.cell (p := ⟨b, off + i * 4, none⟩) hl]; exact h1
  · rw [hb.cell (p := ⟨b, off + i * 4 + 1, none⟩) hl]; exact h2
  · rw [hb.cell (p := ⟨b, off + i * 4 + 2, none⟩) hl]; exact h3
  · rw [hb.cell (p := ⟨b, off + i * 4 + 3, none⟩) hl]; exact h4
end Go.Proofs.Ytoejoneecanbbaa
