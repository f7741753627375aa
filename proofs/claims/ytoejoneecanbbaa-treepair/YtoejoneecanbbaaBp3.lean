
/-
  A contract of bpdu.Check. Conditions: numbers within their kinds.
-/
import Derived.Test.YtoejoneecanbbaaBp2
namespace Go.Proofs.Ytoejoneecanbbaa
open Go.RowKit
set_option linter.unusedVariables false

def bcheckE (b : Bp) : Int := if b.kind < 0 ∨ 3 ≤ b.kind then 11 else if b.kind = 2 then (if b = Bp.bare then 0 else 1) else if numsB b = false ∨ (b.kind = 0 ∧ tellsB b = true) then 1 else if b.maxAge ≤ b.age then 4 else 0
set_option maxRecDepth 20000 in
theorem BChk1 (b : Bp) (w : World) (hW : b.wf) (k0 : b.kind < 0) :
    Calls Try.prog 11 #[.agg b.row] w fun e w' => e = .returned (.int .i64 11) ∧ Below w.heap.size w w' := by
  have hk := heap_alloc_new w (.cells b.row 40)
  have hN := hide (fun w => numbersFit_any b w)
  have hP := hide (fun w => tellsOfPort_any b w)
  have hO := hide (fun w => checkNotice_any b w hW)
  go_enter Try.func11, Try.ntmps11
  go_wp2_with fail
  go_ret
  exact ⟨rfl, below1 _ _⟩
set_option maxRecDepth 20000 in
theorem BChk2 (b : Bp) (w : World) (hW : b.wf) (k0 : ¬ b.kind < 0) (k1 : 3 ≤ b.kind) :
    Calls Try.prog 11 #[.agg b.row] w fun e w' => e = .returned (.int .i64 11) ∧ Below w.heap.size w w' := by
  have hk := heap_alloc_new w (.cells b.row 40)
  have hN := hide (fun w => numbersFit_any b w)
  have hP := hide (fun w => tellsOfPort_any b w)
  have hO := hide (fun w => checkNotice_any b w hW)
  go_enter Try.func11, Try.ntmps11
  go_wp2_with fail
  go_ret
  exact ⟨rfl, below1 _ _⟩
set_option maxRecDepth 20000 in
theorem BChk3 (b : Bp) (w : World) (hW : b.wf) (k2 : b.kind = 2) :
    Calls Try.prog 11 #[.agg b.row] w fun e w' => e = .returned (.int .i64 (if b = Bp.bare then (0 : Int) else 1)) ∧ Below w.heap.size w w' := by
  have hk := heap_alloc_new w (.cells b.row 40)
  have hN := hide (fun w => numbersFit_any b w)
  have hP := hide (fun w => tellsOfPort_any b w)
  have hO := hide (fun w => checkNotice_any b w hW)
  generalize (if b = Bp.bare then (0 : Int) else 1) = R at *
  go_enter Try.func11, Try.ntmps11
  go_wp2_with (first | ((with_reducible change wpList _ _ _ _ _ _); refine wpList_load_row rfl 40 (.tmp 1) rfl w.heap.size rfl 40 _ _ _ hk Try.underlying40 rfl (bpSize _) ?_) | (go_at_call 29; refine (hO.out _).mono ?_; rintro e w1 ⟨rfl, hb1⟩))
  go_ret
  exact ⟨rfl, (below1 _ _).later hb1⟩
set_option maxRecDepth 20000 in
set_option maxHeartbeats 1000000 in
theorem BChk4 (b : Bp) (w : World) (hW : b.wf) (k0 : ¬ b.kind < 0) (k1 : ¬ 3 ≤ b.kind) (k2 : ¬ b.kind = 2) (n : numsB b = false) :
    Calls Try.prog 11 #[.agg b.row] w fun e w' => e = .returned (.int .i64 1) ∧ Below w.heap.size w w' := by
  have hk := heap_alloc_new w (.cells b.row 40)
  have hN := hide (fun w => numbersFit_any b w)
  have hP := hide (fun w => tellsOfPort_any b w)
  have hO := hide (fun w => checkNotice_any b w hW)
  have k2' : (b.kind == 2) = false := by simpa using k2
  rw [n] at hN
  go_enter Try.func11, Try.ntmps11
  go_wp2_with (first | ((with_reducible change wpList _ _ _ _ _ _); refine wpList_load_row rfl 40 (.tmp 1) rfl w.heap.size rfl 40 _ _ _ hk Try.underlying40 rfl (bpSize _) ?_) | (go_at_call 30; refine (hN.out _).mono ?_; rintro e w1 ⟨rfl, hb1⟩; have hk1 := heap_kept hb1 hk; have c0 : w1.cell? ⟨w.heap.size, 0, none⟩ = some (.int .i64 b.kind) := (cell_of_row _ _ _ _ _ _ hk1).trans rfl; have c12 : w1.cell? ⟨w.heap.size, 12, none⟩ = some (.int .i64 b.age) := (cell_of_row _ _ _ _ _ _ hk1).trans rfl; have c13 : w1.cell? ⟨w.heap.size, 13, none⟩ = some (.int .i64 b.maxAge) := (cell_of_row _ _ _ _ _ _ hk1).trans rfl; clear hk c0 c12 c13 hk1))
  go_ret
  exact ⟨rfl, (below1 _ _).later hb1⟩
set_option maxRecDepth 20000 in
theorem BChk5 (b : Bp) (w : World) (hW : b.wf) (k0 : ¬ b.kind < 0) (k1 : ¬ 3 ≤ b.kind) (k2 : ¬ b.kind = 2) (n : numsB b = true) (z : b.kind = 0) (t : tellsB b = true) :
    Calls Try.prog 11 #[.agg b.row] w fun e w' => e = .returned (.int .i64 1) ∧ Below w.heap.size w w' := by
  have hk := heap_alloc_new w (.cells b.row 40)
  have hN := hide (fun w => numbersFit_any b w)
  have hP := hide (fun w => tellsOfPort_any b w)
  have hO := hide (fun w => checkNotice_any b w hW)
  have k2' : (b.kind == 2) = false := by simpa using k2
  rw [n] at hN
  rw [t] at hP
  have z' : (b.kind == 0) = true := by simpa using z
  go_enter Try.func11, Try.ntmps11
  go_wp2_with (first | ((with_reducible change wpList _ _ _ _ _ _); refine wpList_load_row rfl 40 (.tmp 1) rfl w.heap.size rfl 40 _ _ _ hk Try.underlying40 rfl (bpSize _) ?_) | (go_at_call 30; refine (hN.out _).mono ?_; rintro e w1 ⟨rfl, hb1⟩; have hk1 := heap_kept hb1 hk; have c0 : w1.cell? ⟨w.heap.size, 0, none⟩ = some (.int .i64 b.kind) := (cell_of_row _ _ _ _ _ _ hk1).trans rfl; have c12 : w1.cell? ⟨w.heap.size, 12, none⟩ = some (.int .i64 b.age) := (cell_of_row _ _ _ _ _ _ hk1).trans rfl; have c13 : w1.cell? ⟨w.heap.size, 13, none⟩ = some (.int .i64 b.maxAge) := (cell_of_row _ _ _ _ _ _ hk1).trans rfl) | ((with_reducible change wpList _ _ _ _ _ _); refine wpList_load_row_on rfl 40 (.tmp 1) rfl w.heap.size rfl 40 _ _ _ hk1 Try.underlying40 rfl (bpSize _) ?_) | (go_at_call 31; refine (hP.out _).mono ?_; rintro e w2 ⟨rfl, hb2⟩; have hk2 := heap_kept hb2 hk1; have d12 : w2.cell? ⟨w.heap.size, 12, none⟩ = some (.int .i64 b.age) := (cell_of_row _ _ _ _ _ _ hk2).trans rfl; have d13 : w2.cell? ⟨w.heap.size, 13, none⟩ = some (.int .i64 b.maxAge) := (cell_of_row _ _ _ _ _ _ hk2).trans rfl))
  go_ret
  exact ⟨rfl, ((below1 _ _).later hb1).later hb2⟩
set_option maxRecDepth 20000 in
theorem BChk6 (b : Bp) (w : World) (hW : b.wf) (k0 : ¬ b.kind < 0) (k1 : ¬ 3 ≤ b.kind) (k2 : ¬ b.kind = 2) (n : numsB b = true) (z : b.kind = 0) (t : tellsB b = false) (a : b.maxAge ≤ b.age) :
    Calls Try.prog 11 #[.agg b.row] w fun e w' => e = .returned (.int .i64 4) ∧ Below w.heap.size w w' := by
  have hk := heap_alloc_new w (.cells b.row 40)
  have hN := hide (fun w => numbersFit_any b w)
  have hP := hide (fun w => tellsOfPort_any b w)
  have hO := hide (fun w => checkNotice_any b w hW)
  have k2' : (b.kind == 2) = false := by simpa using k2
  rw [n] at hN
  rw [t] at hP
  have z' : (b.kind == 0) = true := by simpa using z
  go_enter Try.func11, Try.ntmps11
  go_wp2_with (first | ((with_reducible change wpList _ _ _ _ _ _); refine wpList_load_row rfl 40 (.tmp 1) rfl w.heap.size rfl 40 _ _ _ hk Try.underlying40 rfl (bpSize _) ?_) | (go_at_call 30; refine (hN.out _).mono ?_; rintro e w1 ⟨rfl, hb1⟩; have hk1 := heap_kept hb1 hk; have c0 : w1.cell? ⟨w.heap.size, 0, none⟩ = some (.int .i64 b.kind) := (cell_of_row _ _ _ _ _ _ hk1).trans rfl; have c12 : w1.cell? ⟨w.heap.size, 12, none⟩ = some (.int .i64 b.age) := (cell_of_row _ _ _ _ _ _ hk1).trans rfl; have c13 : w1.cell? ⟨w.heap.size, 13, none⟩ = some (.int .i64 b.maxAge) := (cell_of_row _ _ _ _ _ _ hk1).trans rfl) | ((with_reducible change wpList _ _ _ _ _ _); refine wpList_load_row_on rfl 40 (.tmp 1) rfl w.heap.size rfl 40 _ _ _ hk1 Try.underlying40 rfl (bpSize _) ?_) | (go_at_call 31; refine (hP.out _).mono ?_; rintro e w2 ⟨rfl, hb2⟩; have hk2 := heap_kept hb2 hk1; have d12 : w2.cell? ⟨w.heap.size, 12, none⟩ = some (.int .i64 b.age) := (cell_of_row _ _ _ _ _ _ hk2).trans rfl; have d13 : w2.cell? ⟨w.heap.size, 13, none⟩ = some (.int .i64 b.maxAge) := (cell_of_row _ _ _ _ _ _ hk2).trans rfl))
  go_ret
  exact ⟨rfl, ((below1 _ _).later hb1).later hb2⟩
set_option maxRecDepth 20000 in
theorem BChk7 (b : Bp) (w : World) (hW : b.wf) (k0 : ¬ b.kind < 0) (k1 : ¬ 3 ≤ b.kind) (k2 : ¬ b.kind = 2) (n : numsB b = true) (z : b.kind = 0) (t : tellsB b = false) (a : ¬ b.maxAge ≤ b.age) :
    Calls Try.prog 11 #[.agg b.row] w fun e w' => e = .returned (.int .i64 0) ∧ Below w.heap.size w w' := by
  have hk := heap_alloc_new w (.cells b.row 40)
  have hN := hide (fun w => numbersFit_any b w)
  have hP := hide (fun w => tellsOfPort_any b w)
  have hO := hide (fun w => checkNotice_any b w hW)
  have k2' : (b.kind == 2) = false := by simpa using k2
  rw [n] at hN
  rw [t] at hP
  have z' : (b.kind == 0) = true := by simpa using z
  go_enter Try.func11, Try.ntmps11
  go_wp2_with (first | ((with_reducible change wpList _ _ _ _ _ _); refine wpList_load_row rfl 40 (.tmp 1) rfl w.heap.size rfl 40 _ _ _ hk Try.underlying40 rfl (bpSize _) ?_) | (go_at_call 30; refine (hN.out _).mono ?_; rintro e w1 ⟨rfl, hb1⟩; have hk1 := heap_kept hb1 hk; have c0 : w1.cell? ⟨w.heap.size, 0, none⟩ = some (.int .i64 b.kind) := (cell_of_row _ _ _ _ _ _ hk1).trans rfl; have c12 : w1.cell? ⟨w.heap.size, 12, none⟩ = some (.int .i64 b.age) := (cell_of_row _ _ _ _ _ _ hk1).trans rfl; have c13 : w1.cell? ⟨w.heap.size, 13, none⟩ = some (.int .i64 b.maxAge) := (cell_of_row _ _ _ _ _ _ hk1).trans rfl) | ((with_reducible change wpList _ _ _ _ _ _); refine wpList_load_row_on rfl 40 (.tmp 1) rfl w.heap.size rfl 40 _ _ _ hk1 Try.underlying40 rfl (bpSize _) ?_) | (go_at_call 31; refine (hP.out _).mono ?_; rintro e w2 ⟨rfl, hb2⟩; have hk2 := heap_kept hb2 hk1; have d12 : w2.cell? ⟨w.heap.size, 12, none⟩ = some (.int .i64 b.age) := (cell_of_row _ _ _ _ _ _ hk2).trans rfl; have d13 : w2.cell? ⟨w.heap.size, 13, none⟩ = some (.int .i64 b.maxAge) := (cell_of_row _ _ _ _ _ _ hk2).trans rfl))
  go_ret
  exact ⟨rfl, ((below1 _ _).later hb1).later hb2⟩
set_option maxRecDepth 20000 in
theorem BChk8 (b : Bp) (w : World) (hW : b.wf) (k0 : ¬ b.kind < 0) (k1 : ¬ 3 ≤ b.kind) (k2 : ¬ b.kind = 2) (n : numsB b = true) (z : ¬ b.kind = 0) (a : b.maxAge ≤ b.age) :
    Calls Try.prog 11 #[.agg b.row] w fun e w' => e = .returned (.int .i64 4) ∧ Below w.heap.size w w' := by
  have hk := heap_alloc_new w (.cells b.row 40)
  have hN := hide (fun w => numbersFit_any b w)
  have hP := hide (fun w => tellsOfPort_any b w)
  have hO := hide (fun w => checkNotice_any b w hW)
  have k2' : (b.kind == 2) = false := by simpa using k2
  rw [n] at hN
  have z' : (b.kind == 0) = false := by simpa using z
  go_enter Try.func11, Try.ntmps11
  go_wp2_with (first | ((with_reducible change wpList _ _ _ _ _ _); refine wpList_load_row rfl 40 (.tmp 1) rfl w.heap.size rfl 40 _ _ _ hk Try.underlying40 rfl (bpSize _) ?_) | (go_at_call 30; refine (hN.out _).mono ?_; rintro e w1 ⟨rfl, hb1⟩; have hk1 := heap_kept hb1 hk; have c0 : w1.cell? ⟨w.heap.size, 0, none⟩ = some (.int .i64 b.kind) := (cell_of_row _ _ _ _ _ _ hk1).trans rfl; have c12 : w1.cell? ⟨w.heap.size, 12, none⟩ = some (.int .i64 b.age) := (cell_of_row _ _ _ _ _ _ hk1).trans rfl; have c13 : w1.cell? ⟨w.heap.size, 13, none⟩ = some (.int .i64 b.maxAge) := (cell_of_row _ _ _ _ _ _ hk1).trans rfl))
  go_ret
  exact ⟨rfl, (below1 _ _).later hb1⟩
set_option maxRecDepth 20000 in
theorem BChk9 (b : Bp) (w : World) (hW : b.wf) (k0 : ¬ b.kind < 0) (k1 : ¬ 3 ≤ b.kind) (k2 : ¬ b.kind = 2) (n : numsB b = true) (z : ¬ b.kind = 0) (a : ¬ b.maxAge ≤ b.age) :
    Calls Try.prog 11 #[.agg b.row] w fun e w' => e = .returned (.int .i64 0) ∧ Below w.heap.size w w' := by
  have hk := heap_alloc_new w (.cells b.row 40)
  have hN := hide (fun w => numbersFit_any b w)
  have hP := hide (fun w => tellsOfPort_any b w)
  have hO := hide (fun w => checkNotice_any b w hW)
  have k2' : (b.kind == 2) = false := by simpa using k2
  rw [n] at hN
  have z' : (b.kind == 0) = false := by simpa using z
  go_enter Try.func11, Try.ntmps11
  go_wp2_with (first | ((with_reducible change wpList _ _ _ _ _ _); refine wpList_load_row rfl 40 (.tmp 1) rfl w.heap.size rfl 40 _ _ _ hk Try.underlying40 rfl (bpSize _) ?_) | (go_at_call 30; refine (hN.out _).mono ?_; rintro e w1 ⟨rfl, hb1⟩; have hk1 := heap_kept hb1 hk; have c0 : w1.cell? ⟨w.heap.size, 0, none⟩ = some (.int .i64 b.kind) := (cell_of_row _ _ _ _ _ _ hk1).trans rfl; have c12 : w1.cell? ⟨w.heap.size, 12, none⟩ = some (.int .i64 b.age) := (cell_of_row _ _ _ _ _ _ hk1).trans rfl; have c13 : w1.cell? ⟨w.heap.size, 13, none⟩ = some (.int .i64 b.maxAge) := (cell_of_row _ _ _ _ _ _ hk1).trans rfl))
  go_ret
  exact ⟨rfl, (below1 _ _).later hb1⟩
theorem BCheck_any (b : Bp) (w : World) (hW : b.wf) :
    Calls Try.prog 11 #[.agg b.row] w fun e w' => e = .returned (.int .i64 (bcheckE b)) ∧ Below w.heap.size w w' := by
  unfold bcheckE
  by_cases k0 : b.kind < 0
  · rw [if_pos (.inl k0)]; exact BChk1 b w hW k0
  by_cases k1 : 3 ≤ b.kind
  · rw [if_pos (.inr k1)]; exact BChk2 b w hW k0 k1
  rw [if_neg (by omega)]
  by_cases k2 : b.kind = 2
  · rw [if_pos k2]; exact BChk3 b w hW k2
  rw [if_neg k2]
  cases n : numsB b
  · rw [if_pos (.inl rfl)]; exact BChk4 b w hW k0 k1 k2 n
  by_cases z : b.kind = 0
  · cases t : tellsB b
    · rw [if_neg (by simp)]
      by_cases a : b.maxAge ≤ b.age
      · rw [if_pos a]; exact BChk6 b w hW k0 k1 k2 n z t a
      · rw [if_neg a]; exact BChk7 b w hW k0 k1 k2 n z t a
    · rw [if_pos (.inr ⟨z, rfl⟩)]; exact BChk5 b w hW k0 k1 k2 n z t
  · rw [if_neg (by simp [z])]
    by_cases a : b.maxAge ≤ b.age
    · rw [if_pos a]; exact BChk8 b w hW k0 k1 k2 n z a
    · rw [if_neg a]; exact BChk9 b w hW k0 k1 k2 n z a
end Go.Proofs.Ytoejoneecanbbaa
